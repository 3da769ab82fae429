import PyProof.Rows.All
import Wide.All
import OpenK.AllK
import Wide.FinOn
import PyProof.EqAt
import PyProof.EqKinds
import PyProof.TupleCall
import KE.BitLaws
import PyProof.IsInstance
import PyProof.IsInstanceH
import PyProof.IsiFacts
import PyProof.IsiNone
import PyProof.ListMulRoad
import PyProof.ListRange
import PyProof.TupleOfGen
import PyProof.ZipIter
import PyProof.TupleIter
import PyProof.IsInstanceT
import PyProof.Rows.SortShellAny
import PyProof.EqLayable
import PyProof.Rows.CallKwBuiltin
import PyProof.WalksS
import PyProof.AutoListH
import PyProof.Draws
import PyProof.EnumMake
import KE.KSortTupG
import PyProof.P3In
import KE.KDictList
import KE.KIsAll
import KE.KTryMore
import KE.KSortAsk
import PyProof.Rows.Range3
import KE.KItemsList
import PySem.Challenge.RW_wishdues_k53_all_two_told
set_option Elab.async false
set_option linter.all false
set_option maxRecDepth 100000
namespace L2
open PySem PySem.Spec PyProof.Rows
abbrev Key := Sum Int Str
def keyIs : Key → Value → Bool
  | .inl k, v => Value.isInt k v
  | .inr x, v => Value.isStrOf x v
def keyH (w : World) : Key → Int
  | .inl k => hashInt k
  | .inr x => hashStr w x
theorem keyIs_shape : ∀ {k : Key} {v : Value}, keyIs k v = true → (∃ i t, k = Sum.inl i ∧ v = Value.int i t) ∨ (∃ x t, k = Sum.inr x ∧ v = Value.str x t)
  | .inl i, v, h => by
    obtain ⟨t, e⟩ := Value.isInt_shape (k := i) (v := v) h
    exact .inl ⟨i, t, rfl, e⟩
  | .inr x, v, h => by
    obtain ⟨t, e⟩ := Value.isStrOf_shape (x := x) (v := v) h
    exact .inr ⟨x, t, rfl, e⟩
theorem keyIs_int (i : Int) (t : Tok) : keyIs (.inl i) (.int i t) = true := by simp [keyIs, Value.isInt]
theorem keyIs_str (x : Str) (t : Tok) : keyIs (.inr x) (.str x t) = true := by simp [keyIs, Value.isStrOf]
theorem key_ll (a b : Int) : decide ((Sum.inl a : Key) = Sum.inl b) = (a == b) := by
  by_cases e : a = b
  · subst e; simp
  · have h : ¬ (Sum.inl a : Key) = Sum.inl b := fun q => e (Sum.inl.inj q)
    rw [decide_eq_false h]
    exact (beq_eq_false_iff_ne.mpr e).symm
theorem key_rr (a b : Str) : decide ((Sum.inr a : Key) = Sum.inr b) = decide (a = b) := by
  by_cases e : a = b
  · subst e; simp
  · have h : ¬ (Sum.inr a : Key) = Sum.inr b := fun q => e (Sum.inr.inj q)
    rw [decide_eq_false h, decide_eq_false e]
theorem key_lr (a : Int) (b : Str) : decide ((Sum.inl a : Key) = Sum.inr b) = false := decide_eq_false (fun q => nomatch q)
theorem key_rl (a : Str) (b : Int) : decide ((Sum.inr a : Key) = Sum.inl b) = false := decide_eq_false (fun q => nomatch q)
def mixKind (prog : Program) (w : World) : PySem.KeyKind prog w Key where
  is := keyIs
  hash := keyH w
  inj := fun v a b ha hb => by
    rcases keyIs_shape ha with ⟨i, t, rfl, rfl⟩ | ⟨x, t, rfl, rfl⟩
    · rcases keyIs_shape hb with ⟨j, u, rfl, e⟩ | ⟨y, u, rfl, e⟩
      · injection e with e1 _; rw [e1]
      · exact nomatch e
    · rcases keyIs_shape hb with ⟨j, u, rfl, e⟩ | ⟨y, u, rfl, e⟩
      · exact nomatch e
      · injection e with e1 _; rw [e1]
  byValue := fun k v h => by
    rcases keyIs_shape h with ⟨i, t, rfl, rfl⟩ | ⟨x, t, rfl, rfl⟩ <;> rfl
  pyHash := fun hv h => by
    rcases keyIs_shape hv with ⟨i, t, rfl, rfl⟩ | ⟨x, t, rfl, rfl⟩
    · exact wpAny_pyHash_int h
    · exact wpAny_pyHash_str h
  eqBool := fun hu hv h => by
    rcases keyIs_shape hu with ⟨i, t, rfl, rfl⟩ | ⟨x, t, rfl, rfl⟩
    · rcases keyIs_shape hv with ⟨j, u, rfl, rfl⟩ | ⟨y, u, rfl, rfl⟩
      · rw [key_ll] at h; exact wpAny_eqBool_int h
      · rw [key_lr] at h; exact SeqAt.EqAt.int_str i t y u _ _ _ _ h
    · rcases keyIs_shape hv with ⟨j, u, rfl, rfl⟩ | ⟨y, u, rfl, rfl⟩
      · rw [key_rl] at h; exact SeqAt.EqAt.str_int x t j u _ _ _ _ h
      · rw [key_rr] at h; exact wpAny_eqBool_str h
  «strs» := fun k x t v h => by
    rcases keyIs_shape h with ⟨i, u, rfl, e⟩ | ⟨y, u, rfl, e⟩
    · exact nomatch e
    · injection e with e1 _
      subst e1
      cases v <;> rfl
theorem mixKind_int (prog : Program) (w : World) (i : Int) (t : Tok) : (mixKind prog w).is (.inl i) (.int i t) = true := keyIs_int i t
theorem mixKind_str (prog : Program) (w : World) (x : Str) (t : Tok) : (mixKind prog w).is (.inr x) (.str x t) = true := keyIs_str x t
end L2
namespace L2
open PySem PySem.Spec PyProof.Rows
inductive V where
  | non | bl (b : Bool) | int (i : Int) | str (x : Str) | byt (b : Array UInt8) | flt (b : UInt64) | ref (a : Addr) | ty (n : String)
  deriving DecidableEq
def RelV : V → Value → Prop
  | .non, u => u = Value.none
  | .bl b, u => u = Value.bool b
  | .int i, u => ∃ t, u = Value.int i t
  | .str x, u => ∃ t, u = Value.str x t
  | .byt b, u => ∃ t, u = Value.bytes b t
  | .flt b, u => ∃ t, u = Value.float b t
  | .ref a, u => u = Value.ref a
  | .ty n, u => u = Value.type n
abbrev Vals : List V → List Value → Prop := Paired RelV
theorem Vals.length {xs : List V} {us : List Value} (r : Vals xs us) : xs.length = us.length := Paired.length r
theorem Vals.get : ∀ {xs : List V} {us : List Value} {i : Nat} {x : V}, Vals xs us → xs[i]? = some x → ∃ u, us[i]? = some u ∧ RelV x u
  | _, _, _, _, .nil, e => by simp at e
  | _, _, 0, _, .cons r _, e => by simp at e; subst e; exact ⟨_, rfl, r⟩
  | _, _, i + 1, x, .cons _ t, e => by
    obtain ⟨u, h1, h2⟩ := Vals.get (i := i) (x := x) t (by simpa using e)
    exact ⟨u, by simpa using h1, h2⟩
theorem Vals.set {x : V} {u : Value} (r : RelV x u) : ∀ {xs : List V} {us : List Value} (i : Nat), Vals xs us → Vals (xs.set i x) (us.set i u)
  | _, _, _, .nil => .nil
  | _, _, 0, .cons _ t => .cons r t
  | _, _, i + 1, .cons q t => .cons q (Vals.set r i t)
theorem Vals.append : ∀ {xs ys : List V} {us ws : List Value}, Vals xs us → Vals ys ws → Vals (xs ++ ys) (us ++ ws)
  | _, _, _, _, .nil, s => s
  | _, _, _, _, .cons r t, s => .cons r (Vals.append t s)
theorem Vals.take : ∀ {xs : List V} {us : List Value} (n : Nat), Vals xs us → Vals (xs.take n) (us.take n)
  | _, _, 0, _ => .nil
  | _, _, _ + 1, .nil => .nil
  | _, _, n + 1, .cons r t => .cons r (Vals.take n t)
theorem Vals.drop : ∀ {xs : List V} {us : List Value} (n : Nat), Vals xs us → Vals (xs.drop n) (us.drop n)
  | _, _, 0, r => r
  | _, _, _ + 1, .nil => .nil
  | _, _, n + 1, .cons _ t => Vals.drop n t
def RelO : Option V → Option Value → Prop
  | some v, some u => RelV v u
  | none, none => True
  | _, _ => False
def KV {κ : Type} : List (κ × V) → List (κ × Value) → Prop := Paired fun (p : κ × V) (q : κ × Value) => p.1 = q.1 ∧ RelV p.2 q.2
def kV : Key → V
  | .inl i => .int i
  | .inr x => .str x
inductive HO where
  /-- a list -/
  | lst (xs : List V)
  /-- a tuple (never changes) -/
  | tup (xs : List V)
  /-- a dict whose keys are ints and texts; one whose keys are tuples of ints and texts (the empty one is both) -/
  | dK (kvs : List (Key × V)) | dT (kvs : List (List Key × V))
  /-- a set of ints: its members, its size -/
  | set (S : Int → Bool) (n : Nat)
  /-- an instance of the class at C, its dict at dx, its attributes -/
  | ins (C dx : Addr) (fs : List (Str × V))
  /-- the dict of the instance at x -/
  | own (x : Addr)
  /-- the dict of an exception -/
  | xd (fs : List (Str × V))
  /-- a bound method, f of x -/
  | met (f x : Addr)
  /-- a range object lo, lo + 1, .. below hi -/
  | rng (lo hi : Int)
  /-- a thing that is known to the object (the script; a dict while a loop walks it): read, never written while it is so -/
  | frz (o : Obj) (u : HO)
  /-- a code object's table -/
  | tbl (ps : Array Value)
  /-- any other thing, by what is true of its one object (a def of one's own: SetO a S n := HO.ext fun h => ..) -/
  | ext (φ : Heap → Prop)
abbrev Hp := Addr → Option HO
def upd (H : Hp) (a : Addr) (o : HO) : Hp := fun b => if b = a then some o else H b
theorem upd_same {H : Hp} {a : Addr} {o : HO} : upd H a o a = some o := by unfold upd; rw [if_pos rfl]
theorem upd_ne {H : Hp} {a b : Addr} {o : HO} (h : b ≠ a) : upd H a o b = H b := by unfold upd; rw [if_neg h]
theorem upd_upd {H : Hp} {a : Addr} {o u : HO} : upd (upd H a o) a u = upd H a u := by
  funext b; unfold upd; split <;> rfl
theorem ne_of {H : Hp} {a b : Addr} {o u : HO} (h : H a = some o) (h' : H b = some u) (d : o ≠ u) : a ≠ b := by
  intro e; subst e; rw [h] at h'; exact d (Option.some.inj h')
theorem ne_of_none {H : Hp} {a b : Addr} {o : HO} (h : H a = some o) (h' : H b = none) : a ≠ b := by
  intro e; subst e; rw [h] at h'; cases h'
section
variable (P : Program) (w : World)
def ObjOk (H : Hp) (h : Heap) (a : Addr) : HO → Prop
  | .lst xs => xs.length ≤ sizeLine ∧ ∃ (its : List Value) (n : Nat), Vals xs its ∧ h.get? a = some { cls := .type "list", data := .seq its.toArray n }
  | .tup xs => xs.length ≤ sizeLine ∧ ∃ its : List Value, Vals xs its ∧ IsTup h a its.toArray
  | .dK kvs => kvs.length ≤ sizeLine ∧ (a == sysModules) = false ∧ ∃ vs, KV kvs vs ∧ h.DictOf (mixKind P w) a vs
  | .dT kvs => kvs.length ≤ sizeLine ∧ (a == sysModules) = false ∧ ∃ xs : List (List Key × Addr × Value),
      Paired (fun (p : List Key × V) (q : List Key × Addr × Value) => p.1 = q.1 ∧ H q.2.1 = some (.tup (p.1.map kV)) ∧ RelV p.2 q.2.2) kvs xs ∧
      ∃ o es ep, h.get? a = some o ∧ o.ExactDict ∧ o.data = .dict es ep ∧ es.toList = xs.map (entryOfKey (tupleKind (mixKind P w))) ∧ (xs.map (·.1)).Nodup
  | .set S n => h.SetOf (intKind P w) a S n
  | .ins C dx fs => H dx = some (.own a) ∧ fs.length ≤ 1000 ∧ dx ≠ a ∧ h.get? a = some (PySem.W.instObj C dx) ∧
      ∃ mA, h.Ns1 dx mA ∧ (∀ f, RelO (fs.lookup f) (mA f)) ∧ PySem.Within mA (fs.map (·.1))
  | .own _ => ∃ o, h.get? a = some o
  | .xd fs => ∃ mA, h.Ns1 a mA ∧ ∀ f, RelO (fs.lookup f) (mA f)
  | .rng lo hi => ∃ t u v, h.get? a = some { cls := .type "range", data := .fields #[.int lo t, .int hi u, .int 1 v] }
  | .frz o u => h.get? a = some o ∧ ObjOk H h a u
  | .tbl ps => h.get? a = some { cls := .none, data := .fields ps }
  | .met f x => h.get? a = some (PySem.W.methodObj (.ref f) (.ref x))
  | .ext φ => φ h ∧ (∃ o, h.get? a = some o) ∧ ∀ h1 h2 : Heap, φ h1 → (∀ o, h1.get? a = some o → h2.get? a = some o) → φ h2
def HOk (H : Hp) (h : Heap) : Prop := ∀ a o, H a = some o → ObjOk P w H h a o
end
section
variable {P : Program} {w : World} {H H' : Hp} {h h' : Heap} {a : Addr} {o : HO}
theorem ObjOk.lt (x : ObjOk P w H h a o) : a < h.objs.size := by
  cases o with
  | lst xs => obtain ⟨_, _, _, _, e⟩ := x; exact Heap.lt_size e
  | tup xs => obtain ⟨_, _, _, p⟩ := x; exact p.lt
  | dK kvs => obtain ⟨_, _, _, _, o, _, _, e, _⟩ := x; exact Heap.lt_size e
  | dT kvs => obtain ⟨_, _, _, _, o, _, _, e, _⟩ := x; exact Heap.lt_size e
  | set S n => obtain ⟨o, _, _, _, e, _⟩ := x; exact Heap.lt_size e
  | ins C dx fs => obtain ⟨_, _, _, e, _⟩ := x; exact Heap.lt_size e
  | own y => obtain ⟨_, e⟩ := x; exact Heap.lt_size e
  | xd fs => obtain ⟨_, ⟨_, _, _, e, _⟩, _⟩ := x; exact Heap.lt_size e
  | rng lo hi => obtain ⟨_, _, _, e⟩ := x; exact Heap.lt_size e
  | frz ob u => obtain ⟨e, _⟩ := x; exact Heap.lt_size e
  | tbl ps => exact Heap.lt_size (show h.get? a = some _ from x)
  | met f y => exact Heap.lt_size (show h.get? a = some _ from x)
  | ext φ => obtain ⟨_, ⟨_, e⟩, _⟩ := x; exact Heap.lt_size e
theorem Paired.mapP {α β : Type} {F G : α → β → Prop} : ∀ {l₁ : List α} {l₂ : List β}, Paired F l₁ l₂ → (∀ a b, F a b → G a b) → Paired G l₁ l₂
  | _, _, .nil, _ => .nil
  | _, _, .cons r t, f => .cons (f _ _ r) (Paired.mapP t f)
theorem ObjOk.stay (x : ObjOk P w H h a o) (k : ∀ b u, (b = a ∨ H b = some (.own a)) → h.get? b = some u → h'.get? b = some u)
    (ho : ∀ b, H b = some (.own a) → H' b = some (.own a)) (ht : ∀ b xs, H b = some (.tup xs) → H' b = some (.tup xs)) : ObjOk P w H' h' a o := by
  induction o with
  | lst xs => obtain ⟨z, its, n, r, e⟩ := x; exact ⟨z, its, n, r, k _ _ (.inl rfl) e⟩
  | tup xs => obtain ⟨z, its, r, ob, e, c⟩ := x; exact ⟨z, its, r, ob, k _ _ (.inl rfl) e, c⟩
  | dK kvs => obtain ⟨z, y, vs, r, ob, es, ep, e, c⟩ := x; exact ⟨z, y, vs, r, ob, es, ep, k _ _ (.inl rfl) e, c⟩
  | dT kvs =>
    obtain ⟨z, y, xs, r, ob, es, ep, e, c⟩ := x
    exact ⟨z, y, xs, Paired.mapP r fun p q z => ⟨z.1, ht _ _ z.2.1, z.2.2⟩, ob, es, ep, k _ _ (.inl rfl) e, c⟩
  | set S n => obtain ⟨ob, es, ep, t, e, c⟩ := x; exact ⟨ob, es, ep, t, k _ _ (.inl rfl) e, c⟩
  | ins C dx fs =>
    obtain ⟨d, z, ne, e, mA, ⟨od, es, ep, e2, c⟩, r⟩ := x
    exact ⟨ho _ d, z, ne, k _ _ (.inl rfl) e, mA, ⟨od, es, ep, k _ _ (.inr d) e2, c⟩, r⟩
  | own y => obtain ⟨ob, e⟩ := x; exact ⟨ob, k _ _ (.inl rfl) e⟩
  | xd fs => obtain ⟨mA, ⟨od, es, ep, e, c⟩, r⟩ := x; exact ⟨mA, ⟨od, es, ep, k _ _ (.inl rfl) e, c⟩, r⟩
  | rng lo hi => obtain ⟨t, u, v, e⟩ := x; exact ⟨t, u, v, k _ _ (.inl rfl) e⟩
  | frz ob u ih => obtain ⟨e, q⟩ := x; exact ⟨k _ _ (.inl rfl) e, ih q⟩
  | tbl ps =>
    have e : h.get? a = some { cls := .none, data := .fields ps } := x
    show h'.get? a = some { cls := .none, data := .fields ps }
    exact k a _ (.inl rfl) e
  | met f y =>
    have e : h.get? a = some (PySem.W.methodObj (.ref f) (.ref y)) := x
    show h'.get? a = some (PySem.W.methodObj (.ref f) (.ref y))
    exact k a _ (.inl rfl) e
  | ext φ => obtain ⟨p, ⟨o, e⟩, st⟩ := x; exact ⟨st _ _ p fun o q => k _ _ (.inl rfl) q, ⟨o, k _ _ (.inl rfl) e⟩, st⟩
theorem HOk.lt (x : HOk P w H h) (e : H a = some o) : a < h.objs.size := (x a o e).lt
theorem HOk.fresh (x : HOk P w H h) (e : h.objs.size ≤ a) : H a = none := by
  cases q : H a with
  | none => rfl
  | some u => exact absurd (Nat.lt_of_lt_of_le (x.lt q) e) (Nat.lt_irrefl _)
theorem HOk.kept (x : HOk P w H h) (k : ∀ b u, h.get? b = some u → h'.get? b = some u) : HOk P w H h' := fun a o e =>
  (x a o e).stay (fun b u _ q => k b u q) (fun _ q => q) fun _ _ q => q
theorem HOk.laid (x : HOk P w H h) (k : ∀ b u, h.get? b = some u → h'.get? b = some u) (hp : h.objs.size ≤ a) (new : ObjOk P w (upd H a o) h' a o) : HOk P w (upd H a o) h' := fun b u e => by
  have hn := x.fresh hp
  by_cases hb : b = a
  · subst hb; rw [upd_same] at e; cases e; exact new
  · rw [upd_ne hb] at e
    exact (x b u e).stay (fun c v _ q => k c v q) (fun c q => by rw [upd_ne (ne_of_none q hn)]; exact q) fun c xs q => by rw [upd_ne (ne_of_none q hn)]; exact q
end
def Rd (H : Hp) (a : Addr) (u : HO) : Prop := H a = some u ∨ ∃ o, H a = some (.frz o u)
theorem Rd.of {H : Hp} {a : Addr} {u : HO} (h : H a = some u) : Rd H a u := .inl h
theorem Rd.ok {P : Program} {w : World} {H : Hp} {h : Heap} {a : Addr} {u : HO} (r : Rd H a u) (x : HOk P w H h) : ObjOk P w H h a u := by
  rcases r with r | ⟨o, r⟩
  · exact x a u r
  · obtain ⟨_, q⟩ := x a _ r
    exact q
def Mut : Option HO → Prop
  | some (.lst _) => True
  | some (.dK _) => True
  | some (.dT _) => True
  | some (.set _ _) => True
  | some (.ins _ _ _) => True
  | some (.ext _) => True
  | _ => False
section
variable {P : Program} {w : World} {H : Hp} {h h' : Heap} {x e : Addr} {o' : HO}
theorem HOk.write (ok : HOk P w H h) (mu : Mut (H x)) (he : e = x ∨ H e = some (.own x)) (k : ∀ b u, b ≠ e → h.get? b = some u → h'.get? b = some u) (heo : ∃ u, h'.get? e = some u)
    (new : ObjOk P w (upd H x o') h' x o') : HOk P w (upd H x o') h' := fun b u q => by
  have nown : ∀ c y, H c = some (.own y) → c ≠ x := fun c y r z => by subst z; rw [r] at mu; exact mu
  have ntup : ∀ c xs, H c = some (.tup xs) → c ≠ x := fun c xs r z => by subst z; rw [r] at mu; exact mu
  by_cases hb : b = x
  · subst hb; rw [upd_same] at q; cases q; exact new
  · rw [upd_ne hb] at q
    by_cases hbe : b = e
    · have q' : H b = some (.own x) := by
        rcases he with z | z
        · exact absurd (hbe.trans z) hb
        · rw [hbe]; exact z
      rw [q] at q'; cases q'
      obtain ⟨v, hv⟩ := heo
      exact ⟨v, by rw [hbe]; exact hv⟩
    · refine (ok b u q).stay (fun c v hc r => k c v ?_ r) (fun c r => by rw [upd_ne (nown c b r)]; exact r) fun c xs r => by rw [upd_ne (ntup c xs r)]; exact r
      rcases hc with rfl | hc
      · exact hbe
      · rintro rfl
        rcases he with z | z
        · exact nown c b hc z
        · rw [hc] at z; cases z; exact hb rfl
end
structure Un (fs ex : List Addr) (H H' : Hp) (h h' : Heap) : Prop where
  keep : ∀ b o, h.get? b = some o → H b = none → b ∉ fs → b ∉ ex → h'.get? b = some o
  slot : ∀ b o, h.get? b = some o → H b = none → b ∈ fs → b ∉ ex → ∃ sl, h'.get? b = some { o with slots := sl }
  free : ∀ b o, h.get? b = some o → H b = none → b ∉ ex → H' b = none
  there : ∀ b o, h.get? b = some o → b ∉ ex → ∃ o', h'.get? b = some o'
  tups : ∀ b xs, H b = some (.tup xs) → H' b = some (.tup xs)
  frzs : ∀ b o u, H b = some (.frz o u) → H' b = some (.frz o u)
  tbls : ∀ b ps, H b = some (.tbl ps) → ∃ more, H' b = some (.tbl (ps ++ more))
section
variable {fs fs' ex ex' : List Addr} {H H1 H2 : Hp} {h h1 h2 h' : Heap} {a x e : Addr} {o : HO}
theorem Un.any (u : Un fs ex H H1 h h1) {b : Addr} {ob : Obj} (q : h.get? b = some ob) (n : H b = none) (hx : b ∉ ex) : ∃ sl, h1.get? b = some { ob with slots := sl } := by
  by_cases hb : b ∈ fs
  · exact u.slot b ob q n hb hx
  · exact ⟨ob.slots, u.keep b ob q n hb hx⟩
theorem Un.trans (a : Un fs ex H H1 h h1) (b : Un fs ex H1 H2 h1 h2) : Un fs ex H H2 h h2 where
  keep := fun c ob q n hc hx => b.keep c ob (a.keep c ob q n hc hx) (a.free c ob q n hx) hc hx
  slot := fun c ob q n hc hx => by
    obtain ⟨sl, e1⟩ := a.slot c ob q n hc hx
    obtain ⟨sl', e2⟩ := b.slot c _ e1 (a.free c ob q n hx) hc hx
    exact ⟨sl', e2⟩
  free := fun c ob q n hx => by
    obtain ⟨o', e1⟩ := a.there c ob q hx
    exact b.free c o' e1 (a.free c ob q n hx) hx
  there := fun c ob q hx => by
    obtain ⟨o', e1⟩ := a.there c ob q hx
    exact b.there c o' e1 hx
  tups := fun c xs q => b.tups c xs (a.tups c xs q)
  frzs := fun c ob xs q => b.frzs c ob xs (a.frzs c ob xs q)
  tbls := fun c ps q => by
    obtain ⟨m1, e1⟩ := a.tbls c ps q
    obtain ⟨m2, e2⟩ := b.tbls c _ e1
    exact ⟨m1 ++ m2, by rw [e2, Array.append_assoc]⟩
theorem Un.kept (k : ∀ b u, h.get? b = some u → h'.get? b = some u) : Un fs ex H H h h' :=
  ⟨fun b ob q _ _ _ => k b ob q, fun b ob q _ _ _ => ⟨ob.slots, k b ob q⟩, fun _ _ _ n _ => n, fun b ob q _ => ⟨ob, k b ob q⟩, fun _ _ q => q, fun _ _ _ q => q, fun _ ps q => ⟨#[], by rw [q]; simp⟩⟩
theorem Un.refl : Un fs ex H H h h := Un.kept fun _ _ q => q
theorem Un.laid (k : ∀ b u, h.get? b = some u → h'.get? b = some u) (hp : h.objs.size ≤ a) (hn : H a = none) : Un fs ex H (upd H a o) h h' where
  keep := fun b u q _ _ _ => k b u q
  slot := fun b u q _ _ _ => ⟨u.slots, k b u q⟩
  free := fun b u q n _ => by rw [upd_ne (Nat.ne_of_lt (Nat.lt_of_lt_of_le (Heap.lt_size q) hp))]; exact n
  there := fun b u q _ => ⟨u, k b u q⟩
  tups := fun b xs q => by rw [upd_ne (ne_of_none q hn)]; exact q
  frzs := fun b u xs q => by rw [upd_ne (ne_of_none q hn)]; exact q
  tbls := fun b ps q => ⟨#[], by rw [upd_ne (ne_of_none q hn), q]; simp⟩
theorem Un.write (mu : Mut (H x)) (he : e = x ∨ H e = some (.own x)) (k : ∀ b u, b ≠ e → h.get? b = some u → h'.get? b = some u) (heo : ∃ u, h'.get? e = some u) : Un fs ex H (upd H x o) h h' := by
  have hx : ∀ b, H b = none → b ≠ x := fun b n z => by subst z; rw [n] at mu; exact mu
  have hb : ∀ b, H b = none → b ≠ e := fun b n z => by
    subst z
    rcases he with r | r
    · exact hx b n r
    · rw [n] at r; cases r
  have hm : ∀ b u, H b = some u → ¬ Mut (some u) → b ≠ x := fun b u q nm z => by subst z; rw [q] at mu; exact nm mu
  refine ⟨fun b u q n _ _ => k b u (hb b n) q, fun b u q n _ _ => ⟨u.slots, k b u (hb b n) q⟩, fun b u q n _ => by rw [upd_ne (hx b n)]; exact n, fun b u q _ => ?_,
    fun b xs q => by rw [upd_ne (hm b _ q fun z => z)]; exact q, fun b u xs q => by rw [upd_ne (hm b _ q fun z => z)]; exact q, fun b ps q => ⟨#[], by rw [upd_ne (hm b _ q fun z => z), q]; simp⟩⟩
  by_cases hbe : b = e
  · subst hbe; exact heo
  · exact ⟨u, k b u hbe q⟩
theorem Un.mono (u : Un fs ex H H1 h h1) (hs : ∀ b ∈ fs, b ∈ fs') (hx : ∀ b ∈ ex, b ∈ ex') : Un fs' ex' H H1 h h1 :=
  ⟨fun b ob q n hb he => u.keep b ob q n (fun z => hb (hs b z)) fun z => he (hx b z), fun _ _ q n _ he => u.any q n fun z => he (hx _ z), fun b ob q n he => u.free b ob q n fun z => he (hx b z), fun b ob q he => u.there b ob q fun z => he (hx b z), u.tups, u.frzs, u.tbls⟩
end
def trk (h : Heap) (H : Hp) : List Addr := (List.range h.objs.size).filter fun a => (H a).isSome
def hidT (h : Heap) (H : Hp) : Heap := PySem.W.hideAll h (trk h H)
theorem hidT_size (h : Heap) (H : Hp) : (hidT h H).objs.size = h.objs.size := PySem.W.hideAll_size _ _
theorem hidT_get {h : Heap} {H : Hp} {b : Addr} {o : Obj} (e : h.get? b = some o) (n : H b = none) : (hidT h H).get? b = some o :=
  PySem.W.hideAll_get _ e fun hm => by
    have q : (H b).isSome = true := (List.mem_filter.mp hm).2
    rw [n] at q; simp at q
theorem of_hidT {h : Heap} {H : Hp} {b : Addr} {o : Obj} (e : (hidT h H).get? b = some o) : h.get? b = some o ∧ H b = none := by
  have e' : h.get? b = some o := PySem.W.of_hideAll (trk h H) e
  refine ⟨e', ?_⟩
  cases q : H b with
  | none => rfl
  | some x =>
    have hm : b ∈ trk h H := List.mem_filter.mpr ⟨List.mem_range.mpr (Heap.lt_size e'), by simp [q]⟩
    have z : (hidT h H).get? b = none := PySem.W.hideAll_none (trk h H) hm
    rw [z] at e; cases e
def allNews (g h : Heap) (L : Addr) : List (Addr × Obj) := (List.range h.objs.size).filterMap fun a => if a = L ∨ (g.get? a).isSome = true then none else (h.get? a).map fun o => (a, o)
def rest (g h : Heap) (L d : Addr) : List (Addr × Obj) := (allNews g h L).filter fun p => decide (p.1 ≠ d)
end L2
namespace L2
open PySem PySem.Spec PyProof.Rows
structure Mod (K : PySem.W.Frag) (mg : Str → Option Value) (base : Heap) : Prop where
  kin : K.In base
  glob : base.Ns mainGlobals mg
  blt : ∃ mb, base.Ns builtinsNs mb ∧ ∀ x : Str, x ≠ "__name__" → mb x = bootBuiltins x
  nolimit : base.NoLimit
structure Cx where
  prog : Program
  w : World
  K : PySem.W.Frag
  mg : Str → Option Value
  base : Heap
  A : Around
  N : List Str
  s_0 : Shared
  H_0 : Hp
  env : Env
  outer : List Env
  stack : List Env
  ex : List Addr
  fn : Str → Bool
  calm : Bool
  pn : List (Addr × Obj)
  xe : Value → Shared → Prop
def frs (l : List Env) : List Addr := l.filterMap (·.frame)
abbrev Cx.fs (X : Cx) : List Addr := frs X.outer
def Vis (sc : Scope) (x : Str) : Prop := sc.names.lookup x = some .local ∨ sc.names.lookup x = some .cell ∨ sc.names.lookup x = some .free
def Loc (sc : Scope) (x : Str) : Prop := sc.names.lookup x = some .local ∨ sc.names.lookup x = some .cell
def Look (env : Env) (h : Heap) (m : Str → Option Value) (x : Str) (u : Value) : Prop :=
  (env.kindOf x = some .local ∧ m x = some u) ∨ ((env.kindOf x = some .cell ∨ env.kindOf x = some .free) ∧ ∃ c, env.cells.lookup x = some c ∧ h.IsCell c (some u))
structure Cx.Ok (X : Cx) : Prop where
  mod : Mod X.K X.mg X.base
  kind : X.env.scope.kind = .function
  glob : X.env.globals = mainGlobals
  blt : X.env.builtins = builtinsNs
  above : X.s_0.heap.objs.size ≤ X.env.locals
  inj : ∀ x y c, X.env.cells.lookup x = some c → X.env.cells.lookup y = some c → x = y
  has : ∀ x, (X.env.kindOf x = some .cell ∨ X.env.kindOf x = some .free) → ∃ c, X.env.cells.lookup x = some c
  cab : ∀ x c, X.fn x = true → X.env.cells.lookup x = some c → X.s_0.heap.objs.size ≤ c
  hd : X.calm = true → X.A.handled = none
  frames : X.A.frames = some X.stack
  stk : X.stack = X.outer ∨ (X.stack = X.env :: X.outer ∧ X.env.frame = some X.env.locals)
  exf : ∀ b ∈ X.ex, b ≠ X.env.locals ∧ ∀ x c, X.env.cells.lookup x = some c → c ≠ b
  bs : ∀ b o, X.base.get? b = some o → X.s_0.heap.get? b = some o ∧ X.H_0 b = none
  bsz : X.base.objs.size ≤ X.s_0.heap.objs.size
  noex : ∀ b o, X.base.get? b = some o → b ∉ X.ex
  exfs : ∀ b ∈ X.ex, b ∉ X.fs
  funs : X.s_0.heap.FunFrames X.base X.outer
  frf : ∀ b ∈ X.fs, X.H_0 b = none
structure Inv (X : Cx) (pins : List (Addr × Obj)) (σ : List (Option V)) (H : Hp) (s : Shared) : Prop where
  ok : X.Ok
  os : s.os = X.s_0.os
  bare : AllBare s.gens
  base : Un X.fs X.ex X.H_0 H X.s_0.heap s.heap
  loc : ∃ m, s.heap.Ns X.env.locals m ∧ ∀ (i : Nat) (x : Str) (v : V), X.N[i]? = some x → σ[i]? = some (some v) → Vis X.env.scope x → ∃ u, RelV v u ∧ Look X.env s.heap m x u
  cell : ∀ x c, X.env.cells.lookup x = some c → ∃ v, s.heap.IsCell c v
  free : H X.env.locals = none
  freeC : ∀ x c, X.env.cells.lookup x = some c → H c = none
  pin : ∀ p ∈ X.pn ++ pins, s.heap.get? p.1 = some p.2 ∧ H p.1 = none ∧ p.1 ≠ X.env.locals ∧ p.1 ∉ X.fs ∧ ∀ v, p.2.data ≠ .cell v
  hok : HOk X.prog X.w H s.heap
  len : σ.length = X.N.length
section
variable {X : Cx} {pins : List (Addr × Obj)} {σ : List (Option V)} {H H' : Hp} {s : Shared} {h' : Heap}
theorem Cx.Ok.nofr (ok : X.Ok) {b : Addr} {o : Obj} (e : X.base.get? b = some o) : b ∉ X.fs := fun hb => by
  have := (ok.funs.mem hb).1
  rw [e] at this; cases this
theorem Inv.bs (I : Inv X pins σ H s) : ∀ b o, X.base.get? b = some o → s.heap.get? b = some o ∧ H b = none := fun b o e =>
  ⟨I.base.keep b o (I.ok.bs b o e).1 (I.ok.bs b o e).2 (I.ok.nofr e) (I.ok.noex b o e), I.base.free b o (I.ok.bs b o e).1 (I.ok.bs b o e).2 (I.ok.noex b o e)⟩
theorem Inv.bk (I : Inv X pins σ H s) : ∀ b o, X.base.get? b = some o → s.heap.get? b = some o := fun b o e => (I.bs b o e).1
theorem Inv.mod (I : Inv X pins σ H s) : Mod X.K X.mg X.base := I.ok.mod
theorem Inv.kIn (I : Inv X pins σ H s) : X.K.In s.heap := I.ok.mod.kin.keeps I.bk
theorem Inv.nolimit (I : Inv X pins σ H s) : s.heap.NoLimit := I.ok.mod.nolimit.keeps I.bk
theorem Inv.fr (I : Inv X pins σ H s) : ∃ m, Fr X.base X.env.locals s.heap m :=
  let ⟨m, hn, _⟩ := I.loc
  ⟨m, hn, I.bk, Nat.le_trans I.ok.bsz I.ok.above⟩
theorem Inv.lt (I : Inv X pins σ H s) : X.env.locals < s.heap.objs.size := let ⟨_, hn, _⟩ := I.loc; hn.lt
theorem Inv.sz (I : Inv X pins σ H s) : X.s_0.heap.objs.size ≤ s.heap.objs.size := Nat.le_trans I.ok.above (Nat.le_of_lt I.lt)
theorem Inv.nofs (I : Inv X pins σ H s) {a : Addr} (h : s.heap.objs.size ≤ a) : a ∉ X.fs := fun hb => by
  obtain ⟨_, o, ho, _⟩ := I.ok.funs.mem hb
  exact absurd (Nat.lt_of_lt_of_le (Heap.lt_size ho) (Nat.le_trans I.sz h)) (Nat.lt_irrefl _)
theorem Inv.cne (I : Inv X pins σ H s) : ∀ x c, X.env.cells.lookup x = some c → c ≠ X.env.locals := fun x c e z => by
  obtain ⟨v, o, ho, hd⟩ := I.cell x c e
  obtain ⟨m, ⟨o', es, ep, ho', hd', _⟩, _⟩ := I.loc
  rw [z, ho'] at ho; cases ho; rw [hd'] at hd; cases hd
theorem Inv.funs (I : Inv X pins σ H s) : s.heap.FunFrames X.base X.outer := by
  have all : ∀ (l : List Env), (∀ b ∈ frs l, b ∈ X.fs) → X.s_0.heap.FunFrames X.base l → s.heap.FunFrames X.base l := by
    intro l
    induction l with
    | nil => intro _ _; trivial
    | cons env r ih =>
      intro hs hl
      obtain ⟨hk, ⟨L, o, hf, hn, ho, hd⟩, hr⟩ := hl
      have hL : L ∈ X.fs := hs L (by unfold frs; rw [List.filterMap_cons, hf]; exact List.mem_cons_self)
      obtain ⟨sl, e⟩ := I.base.slot L o ho (I.ok.frf L hL) hL fun z => I.ok.exfs L z hL
      exact ⟨hk, ⟨L, _, hf, hn, e, hd⟩, ih (fun b hb => hs b (by unfold frs; rw [List.filterMap_cons, hf]; exact List.mem_cons_of_mem _ hb)) hr⟩
  exact all X.outer (fun _ hb => hb) I.ok.funs
theorem Inv.stack (I : Inv X pins σ H s) : s.heap.FunFrames X.base X.stack := by
  rcases I.ok.stk with e | ⟨e, hf⟩
  · rw [e]; exact I.funs
  · rw [e]
    obtain ⟨m, hn, _⟩ := I.loc
    refine .cons (by rw [I.ok.kind]; decide) hf hn ?_ I.funs
    exact Heap.get?_none_of_le (Nat.le_trans I.ok.bsz I.ok.above)
theorem Inv.stkSub (I : Inv X pins σ H s) : ∀ b ∈ frs X.stack, b ∈ X.env.locals :: X.fs := fun b hb => by
  rcases I.ok.stk with e | ⟨e, hf⟩
  · rw [e] at hb; exact List.mem_cons_of_mem _ hb
  · rw [e] at hb
    unfold frs at hb
    rw [List.filterMap_cons, hf] at hb
    exact hb
theorem Inv.stkFree (I : Inv X pins σ H s) : ∀ b ∈ frs X.stack, H b = none := fun b hb => by
  rcases List.mem_cons.mp (I.stkSub b hb) with e | hb
  · rw [e]; exact I.free
  · obtain ⟨_, o, ho, _⟩ := I.ok.funs.mem hb
    exact I.base.free b o ho (I.ok.frf b hb) fun z => I.ok.exfs b z hb
theorem Inv.step {g' : Array GenState} {t' : Nat} {d' : Drawn} {ch : List Addr} (I : Inv X pins σ H s)
    (hch : ∀ b ∈ ch, (b ∈ X.ex ∨ X.s_0.heap.objs.size ≤ b) ∧ b ≠ X.env.locals ∧ (∀ x c, X.env.cells.lookup x = some c → c ≠ b) ∧ ∀ p ∈ X.pn ++ pins, p.1 ≠ b)
    (keep : ∀ b o, b ≠ X.env.locals → b ∉ X.fs → b ∉ ch → s.heap.get? b = some o → H b = none → h'.get? b = some o)
    (slot : ∀ b o, b ≠ X.env.locals → b ∈ X.fs → b ∉ ch → s.heap.get? b = some o → H b = none → ∃ sl, h'.get? b = some { o with slots := sl }) (free : ∀ b o, b ∉ ch → s.heap.get? b = some o → H b = none → H' b = none)
    (there : ∀ b o, b ∉ ch → s.heap.get? b = some o → ∃ o', h'.get? b = some o')
    (tups : ∀ b xs, H b = some (.tup xs) → H' b = some (.tup xs)) (frzs : ∀ b o u, H b = some (.frz o u) → H' b = some (.frz o u)) (tbls : ∀ b ps, H b = some (.tbl ps) → ∃ more, H' b = some (.tbl (ps ++ more)))
    (ns : ∀ m, s.heap.Ns X.env.locals m → h'.Ns X.env.locals m) (hok : HOk X.prog X.w H' h') (hg : AllBare g') :
    Inv X pins σ H' { s with heap := h', gens := g', drawn := d', toks := t' } := by
  have neL : ∀ b o, X.s_0.heap.get? b = some o → b ≠ X.env.locals := fun b o e => Nat.ne_of_lt (Nat.lt_of_lt_of_le (Heap.lt_size e) I.ok.above)
  have neC : ∀ b o, X.s_0.heap.get? b = some o → b ∉ X.ex → b ∉ ch := fun b o e hx hb => by
    rcases (hch b hb).1 with z | z
    · exact hx z
    · exact absurd (Nat.lt_of_lt_of_le (Heap.lt_size e) z) (Nat.lt_irrefl _)
  have cellK : ∀ x c, X.env.cells.lookup x = some c → ∀ v, s.heap.IsCell c v → h'.IsCell c v := fun x c e v ⟨o, ho, hd⟩ => by
    have nch : c ∉ ch := fun z => (hch c z).2.2.1 x c e rfl
    by_cases hc : c ∈ X.fs
    · obtain ⟨sl, q⟩ := slot c o (I.cne x c e) hc nch ho (I.freeC x c e)
      exact ⟨_, q, hd⟩
    · exact ⟨o, keep c o (I.cne x c e) hc nch ho (I.freeC x c e), hd⟩
  refine ⟨I.ok, I.os, hg, ⟨fun b o e n hb hx => ?_, fun b o e n hb hx => ?_, fun b o e n hx => ?_, fun b o e hx => ?_, fun b xs e => tups b xs (I.base.tups b xs e), fun b o xs e => frzs b o xs (I.base.frzs b o xs e), fun b ps e => ?_⟩, ?_, fun x c e => ?_, ?_, fun x c e => ?_, fun p hp => ?_, hok, I.len⟩
  · exact keep b o (neL b o e) hb (neC b o e hx) (I.base.keep b o e n hb hx) (I.base.free b o e n hx)
  · obtain ⟨sl, e1⟩ := I.base.slot b o e n hb hx
    obtain ⟨sl', e2⟩ := slot b _ (neL b o e) hb (neC b o e hx) e1 (I.base.free b o e n hx)
    exact ⟨sl', e2⟩
  · obtain ⟨o', e1⟩ := I.base.there b o e hx
    exact free b o' (neC b o e hx) e1 (I.base.free b o e n hx)
  · obtain ⟨o', e1⟩ := I.base.there b o e hx
    exact there b o' (neC b o e hx) e1
  · obtain ⟨m1, e1⟩ := I.base.tbls b ps e
    obtain ⟨m2, e2⟩ := tbls b _ e1
    exact ⟨m1 ++ m2, by rw [e2, Array.append_assoc]⟩
  · obtain ⟨m, hn, hl⟩ := I.loc
    refine ⟨m, ns m hn, fun i x v e1 e2 e3 => ?_⟩
    obtain ⟨u, r, l⟩ := hl i x v e1 e2 e3
    refine ⟨u, r, ?_⟩
    rcases l with l | ⟨k, c, e, z⟩
    · exact .inl l
    · exact .inr ⟨k, c, e, cellK x c e _ z⟩
  · obtain ⟨v, z⟩ := I.cell x c e
    exact ⟨v, cellK x c e v z⟩
  · obtain ⟨m, ⟨o, _, _, ho, _⟩, _⟩ := I.loc
    exact free _ o (fun z => (hch _ z).2.1 rfl) ho I.free
  · obtain ⟨v, o, ho, hd⟩ := I.cell x c e
    exact free c o (fun z => (hch c z).2.2.1 x c e rfl) ho (I.freeC x c e)
  · obtain ⟨e, n, ne, nf, d⟩ := I.pin p hp
    have nch : p.1 ∉ ch := fun z => (hch p.1 z).2.2.2 p hp rfl
    exact ⟨keep p.1 p.2 ne nf nch e n, free p.1 p.2 nch e n, ne, nf, d⟩
theorem Inv.un {t' : Nat} (I : Inv X pins σ H s) (u : Un X.fs [] H H' s.heap h') (hok : HOk X.prog X.w H' h') : Inv X pins σ H' { s with heap := h', toks := t' } := by
  obtain ⟨m, ⟨o, es, ep, ho, r⟩, _⟩ := id I.loc
  obtain ⟨sl, hL⟩ := u.any ho I.free (by simp)
  exact I.step (g' := s.gens) (d' := s.drawn) (ch := []) (fun _ z => nomatch z) (fun b o _ hb _ e n => u.keep b o e n hb (by simp)) (fun b o _ hb _ e n => u.slot b o e n hb (by simp)) (fun b o _ e n => u.free b o e n (by simp)) (fun b o _ e => u.there b o e (by simp)) u.tups u.frzs u.tbls (fun m' hm => by
    obtain ⟨o', es', ep', ho', r'⟩ := hm
    rw [ho] at ho'; cases ho'
    exact ⟨_, es', ep', hL, r'⟩) hok I.bare
theorem Inv.call {g' : Array GenState} {t' : Nat} {d' : Drawn} {ch : List Addr} (I : Inv X pins σ H s) (u : Un (frs X.stack) ch H H' s.heap h') (hok : HOk X.prog X.w H' h') (hg : AllBare g')
    (hch : ∀ b ∈ ch, (b ∈ X.ex ∨ X.s_0.heap.objs.size ≤ b) ∧ b ≠ X.env.locals ∧ (∀ x c, X.env.cells.lookup x = some c → c ≠ b) ∧ ∀ p ∈ X.pn ++ pins, p.1 ≠ b) :
    Inv X pins σ H' { s with heap := h', gens := g', drawn := d', toks := t' } := by
  obtain ⟨m, ⟨o, es, ep, ho, r⟩, _⟩ := id I.loc
  obtain ⟨sl, hL⟩ := u.any ho I.free fun z => (hch _ z).2.1 rfl
  exact I.step (ch := ch) hch (fun b o hL hb hc e n => u.keep b o e n (fun z => (List.mem_cons.mp (I.stkSub b z)).elim hL hb) hc) (fun b o _ _ hc e n => u.any e n hc) (fun b o hc e n => u.free b o e n hc) (fun b o hc e => u.there b o e hc) u.tups u.frzs u.tbls (fun m' hm => by
    obtain ⟨o', es', ep', ho', r'⟩ := hm
    rw [ho] at ho'; cases ho'
    exact ⟨_, es', ep', hL, r'⟩) hok hg
theorem Inv.turned {t' : Nat} {it : Addr} (I : Inv X pins σ H s) (k : ∀ b o, b ≠ it → s.heap.get? b = some o → h'.get? b = some o) (hn : H it = none) (hL : it ≠ X.env.locals)
    (h1 : it ∈ X.ex ∨ X.s_0.heap.objs.size ≤ it) (h2 : ∀ x c, X.env.cells.lookup x = some c → c ≠ it) (h3 : ∀ p ∈ X.pn ++ pins, p.1 ≠ it) : Inv X pins σ H { s with heap := h', toks := t' } := by
  have nit : ∀ b u, H b = some u → b ≠ it := fun b u e z => by rw [z, hn] at e; cases e
  refine I.step (g' := s.gens) (d' := s.drawn) (ch := [it]) (fun b hb => ?_) (fun b o _ _ hc e _ => k b o (fun z => hc (by simp [z])) e) (fun b o _ _ hc e _ => ⟨o.slots, k b o (fun z => hc (by simp [z])) e⟩) (fun _ _ _ _ n => n)
    (fun b o hc e => ⟨o, k b o (fun z => hc (by simp [z])) e⟩) (fun _ _ e => e) (fun _ _ _ e => e) (fun b ps e => ⟨#[], by rw [e]; simp⟩) (fun m hm => ?_) (fun b u e => ?_) I.bare
  · have e : b = it := by simpa using hb
    subst e
    exact ⟨h1, hL, h2, h3⟩
  · obtain ⟨o, es, ep, ho, r⟩ := hm
    exact ⟨o, es, ep, k _ o (Ne.symm hL) ho, r⟩
  · refine (I.hok b u e).stay (fun c v hc q => k c v ?_ q) (fun _ q => q) fun _ _ q => q
    rcases hc with z | z
    · rw [z]; exact nit b u e
    · exact nit c _ z
theorem Inv.tok (I : Inv X pins σ H s) (t : Nat) : Inv X pins σ H { s with toks := t } := I.un (h' := s.heap) (t' := t) Un.refl I.hok
theorem Inv.kept {t' : Nat} (I : Inv X pins σ H s) (k : ∀ b u, s.heap.get? b = some u → h'.get? b = some u) : Inv X pins σ H { s with heap := h', toks := t' } := I.un (Un.kept k) (I.hok.kept k)
theorem Inv.laid {a : Addr} {o : HO} {t' : Nat} (I : Inv X pins σ H s) (k : ∀ b u, s.heap.get? b = some u → h'.get? b = some u) (hp : s.heap.objs.size ≤ a) (new : ObjOk X.prog X.w (upd H a o) h' a o) :
    Inv X pins σ (upd H a o) { s with heap := h', toks := t' } := I.un (Un.laid k hp (I.hok.fresh hp)) (I.hok.laid k hp new)
theorem Inv.write {x e : Addr} {o : HO} {t' : Nat} (I : Inv X pins σ H s) (mu : Mut (H x)) (he : e = x ∨ H e = some (.own x)) (k : ∀ b u, b ≠ e → s.heap.get? b = some u → h'.get? b = some u) (heo : ∃ u, h'.get? e = some u)
    (new : ObjOk X.prog X.w (upd H x o) h' x o) : Inv X pins σ (upd H x o) { s with heap := h', toks := t' } := I.un (Un.write mu he k heo) (I.hok.write mu he k heo new)
theorem Inv.weak {σ' : List (Option V)} (I : Inv X pins σ H s) (hl : σ'.length = σ.length) (w : ∀ (i : Nat) v, σ'[i]? = some (some v) → σ[i]? = some (some v)) : Inv X pins σ' H s :=
  ⟨I.ok, I.os, I.bare, I.base, let ⟨m, hn, hl'⟩ := I.loc; ⟨m, hn, fun i x v e1 e2 e3 => hl' i x v e1 (w i v e2) e3⟩, I.cell, I.free, I.freeC, I.pin, I.hok, hl.trans I.len⟩
theorem Inv.pins_of {pins' : List (Addr × Obj)} (I : Inv X pins σ H s) (h : ∀ p ∈ pins', s.heap.get? p.1 = some p.2 ∧ H p.1 = none ∧ p.1 ≠ X.env.locals ∧ p.1 ∉ X.fs ∧ ∀ v, p.2.data ≠ .cell v) : Inv X pins' σ H s :=
  ⟨I.ok, I.os, I.bare, I.base, I.loc, I.cell, I.free, I.freeC, fun p hp => (List.mem_append.mp hp).elim (fun z => I.pin p (List.mem_append_left _ z)) (h p), I.hok, I.len⟩
theorem nodup_ix {N : List Str} (hN : N.Nodup) {i j : Nat} {x : Str} (a : N[i]? = some x) (b : N[j]? = some x) : i = j := by
  obtain ⟨h1, e1⟩ := List.getElem?_eq_some_iff.mp a
  obtain ⟨h2, e2⟩ := List.getElem?_eq_some_iff.mp b
  exact (List.getElem_inj hN).mp (e1.trans e2.symm)
theorem store_ok2 {M : Model} {A : Around} {E : Value → Shared → Prop} {i : Nat} {x : Str} {v : V} {u : Value} {Q : Unit → Shared → Prop} (I : Inv X pins σ H s) (hN : X.N.Nodup) (hi : X.N[i]? = some x) (hx : Loc X.env.scope x) (r : RelV v u)
    (h : ∀ s', Inv X pins (σ.set i (some v)) H s' → (∃ a, Heap.SameBut a s.heap s'.heap ∧ (a = X.env.locals ∨ X.env.cells.lookup x = some a)) → Q () s') (hf : X.fn x = true ∨ X.env.scope.names.lookup x = some .local := by first | exact .inl rfl | exact .inr rfl | assumption) : wpAny M A (storeName X.env x u) Q E s := by
  obtain ⟨m, hn, hl⟩ := id I.loc
  have hcls : (X.env.scope.kind == .class || (X.env.scope.kind == .module && X.env.locals != X.env.globals)) = false := by rw [I.ok.kind]; rfl
  have hiσ : i < σ.length := by rw [I.len]; exact (List.getElem?_eq_some_iff.mp hi).1
  have cne := I.cne
  have tracked : ∀ {a : Addr} {h' : Heap}, (∃ o, s.heap.get? a = some o ∧ H a = none) → Heap.SameBut a s.heap h' → HOk X.prog X.w H h' := fun {a h'} ha hs b ob e => by
    obtain ⟨_, _, hfree⟩ := ha
    refine (I.hok b ob e).stay (fun c w' hc q => (hs.2 c ?_).trans q) (fun _ q => q) fun _ _ q => q
    rintro rfl
    rcases hc with rfl | hc
    · rw [hfree] at e; cases e
    · rw [hfree] at hc; cases hc
  rcases hx with hk | hk
  · refine wpAny_storeName_local hk hn (fun h' hn' hs => ?_) hcls
    obtain ⟨oL, _, _, hoL, _⟩ := id hn
    refine h _ ⟨I.ok, I.os, I.bare, ⟨fun b o e n hb hx => ?_, fun b o e n hb hx => ?_, I.base.free, fun b o e hx => ?_, I.base.tups, I.base.frzs, I.base.tbls⟩, ⟨_, hn', fun j y v' e1 e2 e3 => ?_⟩, fun y c e => ?_, I.free, I.freeC, fun p hp => ?_, tracked ⟨oL, hoL, I.free⟩ hs, by simpa using I.len⟩ ⟨_, hs, .inl rfl⟩
    · exact (hs.2 b (Nat.ne_of_lt (Nat.lt_of_lt_of_le (Heap.lt_size e) I.ok.above))).trans (I.base.keep b o e n hb hx)
    · obtain ⟨sl, e1⟩ := I.base.slot b o e n hb hx
      exact ⟨sl, (hs.2 b (Nat.ne_of_lt (Nat.lt_of_lt_of_le (Heap.lt_size e) I.ok.above))).trans e1⟩
    · obtain ⟨o', e1⟩ := I.base.there b o e hx
      exact ⟨o', (hs.2 b (Nat.ne_of_lt (Nat.lt_of_lt_of_le (Heap.lt_size e) I.ok.above))).trans e1⟩
    · by_cases hj : j = i
      · subst hj
        rw [hi] at e1; cases e1
        rw [List.getElem?_set_self hiσ] at e2
        cases e2
        exact ⟨u, r, .inl ⟨hk, by simp⟩⟩
      · rw [List.getElem?_set_ne (Ne.symm hj)] at e2
        obtain ⟨u', r', q⟩ := hl j y v' e1 e2 e3
        refine ⟨u', r', ?_⟩
        rcases q with ⟨k, e⟩ | ⟨k, c, e, z⟩
        · refine .inl ⟨k, ?_⟩
          have : y ≠ x := fun e => hj (nodup_ix hN e1 (e ▸ hi))
          simp [this, e]
        · exact .inr ⟨k, c, e, z.sameBut hs (cne y c e)⟩
    · obtain ⟨w', z⟩ := I.cell y c e
      exact ⟨w', z.sameBut hs (cne y c e)⟩
    · obtain ⟨e, n, ne, nf, d⟩ := I.pin p hp
      exact ⟨(hs.2 p.1 ne).trans e, n, ne, nf, d⟩
  · have hfn : X.fn x = true := by
      rcases hf with z | z
      · exact z
      · rw [z] at hk; cases hk
    obtain ⟨c, hc⟩ := I.ok.has x (.inl hk)
    obtain ⟨w', z⟩ := I.cell x c hc
    refine wpAny_storeName_cell I.ok.kind hk hc z (fun h' hc' hs => ?_)
    obtain ⟨oc, hoc, hocd⟩ := id z
    refine h { s with heap := h' } ⟨I.ok, I.os, I.bare, ⟨fun b o e n hb hx => ?_, fun b o e n hb hx => ?_, I.base.free, fun b o e hx => ?_, I.base.tups, I.base.frzs, I.base.tbls⟩, ⟨m, hn.sameBut hs (Ne.symm (cne x c hc)), fun j y v' e1 e2 e3 => ?_⟩, fun y c' e => ?_, I.free, I.freeC, fun p hp => ?_, tracked ⟨oc, hoc, I.freeC x c hc⟩ hs, by simpa using I.len⟩ ⟨c, hs, .inr hc⟩
    · exact (hs.2 b (Nat.ne_of_lt (Nat.lt_of_lt_of_le (Heap.lt_size e) (I.ok.cab x c hfn hc)))).trans (I.base.keep b o e n hb hx)
    · obtain ⟨sl, e1⟩ := I.base.slot b o e n hb hx
      exact ⟨sl, (hs.2 b (Nat.ne_of_lt (Nat.lt_of_lt_of_le (Heap.lt_size e) (I.ok.cab x c hfn hc)))).trans e1⟩
    · obtain ⟨o', e1⟩ := I.base.there b o e hx
      exact ⟨o', (hs.2 b (Nat.ne_of_lt (Nat.lt_of_lt_of_le (Heap.lt_size e) (I.ok.cab x c hfn hc)))).trans e1⟩
    · by_cases hj : j = i
      · subst hj
        rw [hi] at e1; cases e1
        rw [List.getElem?_set_self hiσ] at e2
        cases e2
        exact ⟨u, r, .inr ⟨.inl hk, c, hc, hc'⟩⟩
      · rw [List.getElem?_set_ne (Ne.symm hj)] at e2
        obtain ⟨u', r', q⟩ := hl j y v' e1 e2 e3
        refine ⟨u', r', ?_⟩
        rcases q with q | ⟨k, c', e, z'⟩
        · exact .inl q
        · refine .inr ⟨k, c', e, z'.sameBut hs ?_⟩
          rintro rfl
          exact hj (nodup_ix hN e1 (I.ok.inj _ _ _ e hc ▸ hi))
    · by_cases hcc : c' = c
      · subst hcc; exact ⟨_, hc'⟩
      · obtain ⟨w2, z2⟩ := I.cell y c' e
        exact ⟨w2, z2.sameBut hs hcc⟩
    · obtain ⟨e, n, ne, nf, d⟩ := I.pin p hp
      refine ⟨(hs.2 p.1 ?_).trans e, n, ne, nf, d⟩
      intro q
      rw [q, hoc] at e
      have q' : oc = p.2 := Option.some.inj e
      exact d w' (by rw [← q']; exact hocd)
theorem store_ok {M : Model} {A : Around} {E : Value → Shared → Prop} {i : Nat} {x : Str} {v : V} {u : Value} {Q : Unit → Shared → Prop} (I : Inv X pins σ H s) (hN : X.N.Nodup) (hi : X.N[i]? = some x) (hx : Loc X.env.scope x) (r : RelV v u)
    (h : ∀ s', Inv X pins (σ.set i (some v)) H s' → Q () s') (hf : X.fn x = true ∨ X.env.scope.names.lookup x = some .local := by first | exact .inl rfl | exact .inr rfl | assumption) : wpAny M A (storeName X.env x u) Q E s :=
  store_ok2 I hN hi hx r (fun s' I' _ => h s' I') hf
theorem Inv.call' {s' : Shared} {ch : List Addr} (I : Inv X pins σ H s) (ho : s'.os = s.os) (u : Un (frs X.stack) ch H H' s.heap s'.heap) (hok : HOk X.prog X.w H' s'.heap) (hg : AllBare s'.gens)
    (hch : ∀ b ∈ ch, (b ∈ X.ex ∨ X.s_0.heap.objs.size ≤ b) ∧ b ≠ X.env.locals ∧ (∀ x c, X.env.cells.lookup x = some c → c ≠ b) ∧ ∀ p ∈ X.pn ++ pins, p.1 ≠ b) : Inv X pins σ H' s' := by
  obtain ⟨h', g', d', t', o'⟩ := s'
  have e : o' = s.os := ho
  subst e
  exact I.call (g' := g') (t' := t') (d' := d') u hok hg hch
end
abbrev XK := Value → Option Addr → Hp → Prop
abbrev St := List (Option V)
abbrev VK := V → Hp → Prop
abbrev TE := St → Hp → VK → Prop
abbrev TT := St → Hp → (Bool → Hp → Prop) → Prop
abbrev TA := St → Hp → (List V → Hp → Prop) → Prop
structure Ends where
  nx : St → Hp → Prop
  rt : VK
  bk : St → Hp → Prop := fun _ _ => False
  ct : St → Hp → Prop := fun _ _ => False
abbrev TS := Ends → St → Hp → Prop
def EP (X : Cx) (pins : List (Addr × Obj)) (σ : St) (Q : VK) (u : Value) (s' : Shared) : Prop := ∃ v H', Inv X pins σ H' s' ∧ RelV v u ∧ Q v H'
def TP (X : Cx) (pins : List (Addr × Obj)) (σ : St) (Q : Bool → Hp → Prop) (b : Bool) (s' : Shared) : Prop := ∃ H', Inv X pins σ H' s' ∧ Q b H'
def AP (X : Cx) (pins : List (Addr × Obj)) (σ : St) (Q : List V → Hp → Prop) (us : List Value) (s' : Shared) : Prop := ∃ vs H', Inv X pins σ H' s' ∧ Vals vs us ∧ Q vs H'
def SP (X : Cx) (pins : List (Addr × Obj)) (D : Ends) (f : Flow) (s' : Shared) : Prop :=
  match f with
  | .next => ∃ σ' H', Inv X pins σ' H' s' ∧ D.nx σ' H'
  | .brk => ∃ σ' H', Inv X pins σ' H' s' ∧ D.bk σ' H'
  | .cont => ∃ σ' H', Inv X pins σ' H' s' ∧ D.ct σ' H'
  | .ret u => ∃ v σ' H', Inv X pins σ' H' s' ∧ RelV v u ∧ D.rt v H'
structure PE (X : Cx) (e : Expr) (t : TE) : Prop where
  go : ∀ (pins : List (Addr × Obj)) (s : Shared) (σ : St) (H : Hp) (Q : VK), Inv X pins σ H s → t σ H Q → wpAny (model X.prog X.w) X.A (eval e X.env) (EP X pins σ Q) X.xe s
instance {X : Cx} {e : Expr} {t : TE} : CoeFun (PE X e t) (fun _ => ∀ (pins : List (Addr × Obj)) (s : Shared) (σ : St) (H : Hp) (Q : VK), Inv X pins σ H s → t σ H Q → wpAny (model X.prog X.w) X.A (eval e X.env) (EP X pins σ Q) X.xe s) := ⟨PE.go⟩
structure PT (X : Cx) (e : Expr) (t : TT) : Prop where
  go : ∀ (pins : List (Addr × Obj)) (s : Shared) (σ : St) (H : Hp) (Q : Bool → Hp → Prop), Inv X pins σ H s → t σ H Q → wpAny (model X.prog X.w) X.A (isTrue e X.env (eval e X.env)) (TP X pins σ Q) X.xe s
instance {X : Cx} {e : Expr} {t : TT} : CoeFun (PT X e t) (fun _ => ∀ (pins : List (Addr × Obj)) (s : Shared) (σ : St) (H : Hp) (Q : Bool → Hp → Prop), Inv X pins σ H s → t σ H Q → wpAny (model X.prog X.w) X.A (isTrue e X.env (eval e X.env)) (TP X pins σ Q) X.xe s) := ⟨PT.go⟩
structure PW (X : Cx) (e : Expr) (t : TT) : Prop where
  go : ∀ (whole : Sem Value) (pins : List (Addr × Obj)) (s : Shared) (σ : St) (H : Hp) (Q : Bool → Hp → Prop), Inv X pins σ H s → t σ H Q → wpAny (model X.prog X.w) X.A (isTrue e X.env whole) (TP X pins σ Q) X.xe s
instance {X : Cx} {e : Expr} {t : TT} : CoeFun (PW X e t) (fun _ => ∀ (whole : Sem Value) (pins : List (Addr × Obj)) (s : Shared) (σ : St) (H : Hp) (Q : Bool → Hp → Prop), Inv X pins σ H s → t σ H Q → wpAny (model X.prog X.w) X.A (isTrue e X.env whole) (TP X pins σ Q) X.xe s) := ⟨PW.go⟩
theorem PW.pt {X : Cx} {e : Expr} {t : TT} (h : PW X e t) : PT X e t := ⟨h _⟩
structure PA (X : Cx) (es : List Expr) (t : TA) : Prop where
  go : ∀ (pos : Pos) (pins : List (Addr × Obj)) (s : Shared) (σ : St) (H : Hp) (Q : List V → Hp → Prop), Inv X pins σ H s → t σ H Q → wpAny (model X.prog X.w) X.A (spliced (backTo pos (starEach es X.env))) (AP X pins σ Q) X.xe s
instance {X : Cx} {es : List Expr} {t : TA} : CoeFun (PA X es t) (fun _ => ∀ (pos : Pos) (pins : List (Addr × Obj)) (s : Shared) (σ : St) (H : Hp) (Q : List V → Hp → Prop), Inv X pins σ H s → t σ H Q → wpAny (model X.prog X.w) X.A (spliced (backTo pos (starEach es X.env))) (AP X pins σ Q) X.xe s) := ⟨PA.go⟩
structure PS (X : Cx) (st : Stmt) (t : TS) : Prop where
  go : ∀ (pins : List (Addr × Obj)) (s : Shared) (σ : St) (H : Hp) (D : Ends), Inv X pins σ H s → t D σ H → wpAny (model X.prog X.w) X.A (exec st X.env) (SP X pins D) X.xe s
instance {X : Cx} {st : Stmt} {t : TS} : CoeFun (PS X st t) (fun _ => ∀ (pins : List (Addr × Obj)) (s : Shared) (σ : St) (H : Hp) (D : Ends), Inv X pins σ H s → t D σ H → wpAny (model X.prog X.w) X.A (exec st X.env) (SP X pins D) X.xe s) := ⟨PS.go⟩
structure PSs (X : Cx) (st : List Stmt) (t : TS) : Prop where
  go : ∀ (pins : List (Addr × Obj)) (s : Shared) (σ : St) (H : Hp) (D : Ends), Inv X pins σ H s → t D σ H → wpAny (model X.prog X.w) X.A (execs st X.env) (SP X pins D) X.xe s
instance {X : Cx} {st : List Stmt} {t : TS} : CoeFun (PSs X st t) (fun _ => ∀ (pins : List (Addr × Obj)) (s : Shared) (σ : St) (H : Hp) (D : Ends), Inv X pins σ H s → t D σ H → wpAny (model X.prog X.w) X.A (execs st X.env) (SP X pins D) X.xe s) := ⟨PSs.go⟩
theorem thn {α : Type} {t : Sem α} {Q Q' : α → Shared → Prop} {M : Model} {A : Around} {E : Value → Shared → Prop} {s : Shared} (h : wpAny M A t Q E s) (hQ : ∀ a s, Q a s → Q' a s) : wpAny M A t Q' E s := wpAny_mono h hQ fun _ _ x => x
end L2
namespace L2
open PySem PySem.Spec PyProof.Rows
section
variable {X : Cx}
theorem bin {a b : Expr} {ta tb : TE} (ha : PE X a ta) (hb : PE X b tb) {pins : List (Addr × Obj)} {s : Shared} {σ : St} {H : Hp} {R : V → V → Hp → Prop} (I : Inv X pins σ H s) (h : ta σ H fun x H1 => tb σ H1 fun y H2 => R x y H2)
    {α : Type} {Q : α → Shared → Prop} {f : Value → Value → Sem α}
    (hf : ∀ v u s2 x y H2, Inv X pins σ H2 s2 → RelV x v → RelV y u → R x y H2 → wpAny (model X.prog X.w) X.A (f v u) Q X.xe s2) :
    wpAny (model X.prog X.w) X.A (eval a X.env) (fun v s₁ => wpAny (model X.prog X.w) X.A (eval b X.env) (fun u s₂ => wpAny (model X.prog X.w) X.A (f v u) Q X.xe s₂) X.xe s₁) X.xe s := by
  refine thn (ha pins s σ H _ I h) fun v s1 ⟨x, H1, I1, r1, q1⟩ => ?_
  refine thn (hb pins s1 σ H1 _ I1 q1) fun u s2 ⟨y, H2, I2, r2, q2⟩ => ?_
  exact hf v u s2 x y H2 I2 r1 r2 q2
def tVar (i : Nat) : TE := fun σ H Q => ∃ v, σ[i]? = some (some v) ∧ Q v H
def tC (v : V) : TE := fun _ H Q => Q v H
theorem pe_var {i : Nat} {x : Str} {pos : Pos} (hN : X.N[i]? = some x) (hv : Vis X.env.scope x) (hd : (x == ("__debug__" : Str)) = false := by decide) (hcd : (x == ("__classdict__" : Str)) = false := by decide) : PE X (.Name x pos) (tVar i) := by
  refine ⟨?_⟩
  intro pins s σ H Q I h
  obtain ⟨v, e, h⟩ := h
  obtain ⟨m, hn, hl⟩ := I.loc
  obtain ⟨u, r, l⟩ := hl i x v hN e hv
  have fin : EP X pins σ Q u s := ⟨v, H, I, r, h⟩
  rcases l with ⟨hk, hm⟩ | ⟨hk, c, hc, hcell⟩
  · exact wpAny_Name (wpAny_loadName_local I.ok.kind hk hn hm fin) hd
  · rcases hk with hk | hk
    · exact wpAny_Name (wpAny_loadName_cell I.ok.kind hk hc hcell fin) hd
    · exact wpAny_Name (wpAny_loadName_free I.ok.kind hk hc hcell fin hcd) hd
theorem pe_int {i j pos} : PE X (.Constant (.int i) j pos) (tC (.int i)) := .mk <| fun _ _ _ H _ I h => wpAny_Constant_int ⟨.int i, H, I.tok _, ⟨_, rfl⟩, h⟩
theorem pe_bl {b j pos} : PE X (.Constant (.bool b) j pos) (tC (.bl b)) := .mk <| fun _ _ _ H _ I h => Constant_bool ⟨.bl b, H, I, rfl, h⟩
theorem pe_str {x j pos} : PE X (.Constant (.str x) j pos) (tC (.str x)) := .mk <| fun _ _ _ H _ I h => Calls.Constant_str ⟨.str x, H, I.tok _, ⟨_, rfl⟩, h⟩
def Gl (X : Cx) (x : Str) : Prop := X.env.kindOf x = some .globalImplicit
theorem ld_glob {E : Value → Shared → Prop} {pins : List (Addr × Obj)} {s : Shared} {σ : St} {H : Hp} {x : Str} {u : Value} {pos : Pos} {Q : Value → Shared → Prop} (I : Inv X pins σ H s) (hg : Gl X x) (hm : X.mg x = some u) (h : Q u s)
    (hd : (x == ("__debug__" : Str)) = false := by decide) : wpAny (model X.prog X.w) X.A (eval (.Name x pos) X.env) Q E s :=
  Calls.Name_function_global I.ok.kind hg (Calls.loadGlobal_global (by rw [I.ok.glob]; exact I.mod.glob.keeps I.bk) hm h) hd
theorem ld_blt {E : Value → Shared → Prop} {pins : List (Addr × Obj)} {s : Shared} {σ : St} {H : Hp} {x : Str} {u : Value} {pos : Pos} {Q : Value → Shared → Prop} (I : Inv X pins σ H s) (hg : Gl X x) (hm : X.mg x = none) (hv : bootBuiltins x = some u) (h : Q u s)
    (hn : x ≠ "__name__" := by decide) (hd : (x == ("__debug__" : Str)) = false := by decide) : wpAny (model X.prog X.w) X.A (eval (.Name x pos) X.env) Q E s := by
  obtain ⟨mb, h1, h2⟩ := I.mod.blt
  exact Calls.Name_function_global I.ok.kind hg (Calls.loadGlobal_builtin (by rw [I.ok.glob]; exact I.mod.glob.keeps I.bk) hm (by rw [I.ok.blt]; exact h1.keeps I.bk) ((h2 x hn).trans hv) h) hd
theorem pe_bltn {x : Str} {v : V} {u : Value} {pos : Pos} (hg : Gl X x) (hm : X.mg x = none) (hv : bootBuiltins x = some u) (r : RelV v u) (hn : x ≠ "__name__" := by decide) (hd : (x == ("__debug__" : Str)) = false := by decide) : PE X (.Name x pos) (tC v) := .mk <|
  fun _ _ _ H _ I h => ld_blt I hg hm hv ⟨v, H, I, r, h⟩ hn hd
def t2I (ta tb : TE) (k : Int → Int → Hp → Prop) : St → Hp → Prop := fun σ H => ta σ H fun x H1 => tb σ H1 fun y H2 => ∃ i j, x = .int i ∧ y = .int j ∧ k i j H2
def tAdd (ta tb : TE) : TE := fun σ H Q => t2I ta tb (fun i j H2 => Q (.int (i + j)) H2) σ H
def tSub (ta tb : TE) : TE := fun σ H Q => t2I ta tb (fun i j H2 => Q (.int (i - j)) H2) σ H
def tMul (ta tb : TE) : TE := fun σ H Q => t2I ta tb (fun i j H2 => (-(2 ^ 64) < i ∧ i < 2 ^ 64) ∧ Q (.int (i * j)) H2) σ H
variable {a b : Expr} {ta tb : TE} {pos : Pos}
theorem pe_add (ha : PE X a ta) (hb : PE X b tb) : PE X (.BinOp a .Add b pos) (tAdd ta tb) := by
  refine ⟨?_⟩
  intro pins s σ H Q I h
  refine wpAny_BinOp (bin ha hb I h fun v u s2 x y H2 I2 rx ry q => ?_)
  obtain ⟨i, j, rfl, rfl, q⟩ := q
  obtain ⟨t, rfl⟩ := rx
  obtain ⟨t', rfl⟩ := ry
  exact add_int ⟨.int _, H2, I2.tok _, ⟨_, rfl⟩, q⟩
def PC (X : Cx) (op : CmpOp) (a b : Expr) (t : TE) : Prop :=
  ∀ (pins : List (Addr × Obj)) (s : Shared) (σ : St) (H : Hp) (Q : VK), Inv X pins σ H s → t σ H Q →
    wpAny (model X.prog X.w) X.A (eval a X.env) (fun v s₁ => wpAny (model X.prog X.w) X.A (eval b X.env) (fun u s₂ => wpAny (model X.prog X.w) X.A (compareOp op v u) (EP X pins σ Q) X.xe s₂) X.xe s₁) X.xe s
def tCmp (p : Int → Int → Bool) (ta tb : TE) : TE := fun σ H Q => t2I ta tb (fun i j H2 => Q (.bl (p i j)) H2) σ H
abbrev tLt : TE → TE → TE := tCmp fun i j => decide (i < j)
abbrev tLe : TE → TE → TE := tCmp fun i j => decide (i ≤ j)
abbrev tGt : TE → TE → TE := tCmp fun i j => decide (j < i)
abbrev tGe : TE → TE → TE := tCmp fun i j => decide (j ≤ i)
abbrev tEqI : TE → TE → TE := tCmp fun i j => decide (i = j)
abbrev tNeI : TE → TE → TE := tCmp fun i j => !decide (i = j)
def tIsN (ta : TE) : TE := fun σ H Q => ta σ H fun x H1 => Q (.bl (decide (x = .non))) H1
def tNotN (ta : TE) : TE := fun σ H Q => ta σ H fun x H1 => Q (.bl (!decide (x = .non))) H1
def tB (t : TE) : TT := fun σ H Q => t σ H fun x H1 => ∃ c, x = .bl c ∧ Q c H1
theorem pt_val {e : Expr} {t : TE} (h : PE X e t) (he : ∀ whole, isTrue e X.env whole = (do let v ← whole; standAt e.pos; holding [v] (truthy v)) := by intro _; rfl) : PT X e (tB t) := by
  refine ⟨?_⟩
  intro pins s σ H Q I hw
  refine isTrue_plain (thn (h pins s σ H _ I hw) fun v s1 ⟨x, H1, I1, r1, q1⟩ => ?_) (he _)
  obtain ⟨d, rfl, q⟩ := q1
  cases r1
  exact wpAny_truthy_bool ⟨H1, I1, q⟩
variable {tA tB' : TT} {rest : List Expr}
def tAnd (t u : TT) : TT := fun σ H Q => t σ H fun c H1 => if c = true then u σ H1 Q else Q false H1
def tOr (t u : TT) : TT := fun σ H Q => t σ H fun c H1 => if c = true then Q true H1 else u σ H1 Q
def tNot (t : TT) : TT := fun σ H Q => t σ H fun c H1 => Q (!c) H1
theorem pw_and1 (ha : PT X a tA) : PW X (.BoolOp .And [a] pos) tA := by
  refine ⟨?_⟩
  intro wh pins s σ H Q I h
  refine isTrue_and (thn (ha pins s σ H Q I h) fun c s1 e => ?_)
  cases c with
  | true => exact isTrue_and_nil e
  | false => exact e
theorem pw_or1 (ha : PT X a tA) : PW X (.BoolOp .Or [a] pos) tA := by
  refine ⟨?_⟩
  intro wh pins s σ H Q I h
  refine isTrue_or (thn (ha pins s σ H Q I h) fun c s1 e => ?_)
  cases c with
  | false => exact isTrue_or_nil e
  | true => exact e
theorem pw_and (ha : PT X a tA) (hb : PW X (.BoolOp .And (b :: rest) pos) tB') : PW X (.BoolOp .And (a :: b :: rest) pos) (tAnd tA tB') := by
  refine ⟨?_⟩
  intro wh pins s σ H Q I h
  refine isTrue_and (thn (ha pins s σ H _ I h) fun c s1 ⟨H1, I1, q1⟩ => ?_)
  cases c with
  | true => exact hb wh pins s1 σ H1 Q I1 q1
  | false => exact ⟨H1, I1, q1⟩
theorem pw_or (ha : PT X a tA) (hb : PW X (.BoolOp .Or (b :: rest) pos) tB') : PW X (.BoolOp .Or (a :: b :: rest) pos) (tOr tA tB') := by
  refine ⟨?_⟩
  intro wh pins s σ H Q I h
  refine isTrue_or (thn (ha pins s σ H _ I h) fun c s1 ⟨H1, I1, q1⟩ => ?_)
  cases c with
  | true => exact ⟨H1, I1, q1⟩
  | false => exact hb wh pins s1 σ H1 Q I1 q1
theorem pt_not (ha : PT X a tA) : PT X (.UnaryOp .Not a pos) (tNot tA) := by
  refine ⟨?_⟩
  intro pins s σ H Q I h
  exact isTrue_not (ha pins s σ H (fun c H1 => Q (!c) H1) I h)
def tAndV (ta tb : TE) : TE := fun σ H Q => ta σ H fun x H1 => ∃ c, x = .bl c ∧ if c = true then tb σ H1 Q else Q (.bl false) H1
def tOrV (ta tb : TE) : TE := fun σ H Q => ta σ H fun x H1 => ∃ c, x = .bl c ∧ if c = true then Q (.bl true) H1 else tb σ H1 Q
def tNotV (ta : TE) : TE := fun σ H Q => ta σ H fun x H1 => ∃ c, x = .bl c ∧ Q (.bl (!c)) H1
theorem pe_one {op} {t : TE} (h : PE X a t) : PE X (.BoolOp op [a] pos) t := .mk <| fun pins s σ H Q I hw => BoolOp_one (h pins s σ H Q I hw)
theorem pe_and (ha : PE X a ta) (hb : PE X (.BoolOp .And (b :: rest) pos) tb) : PE X (.BoolOp .And (a :: b :: rest) pos) (tAndV ta tb) := by
  refine ⟨?_⟩
  intro pins s σ H Q I h
  refine BoolOp_and (thn (ha pins s σ H _ I h) fun v s1 ⟨x, H1, I1, r1, q1⟩ => ?_)
  obtain ⟨c, rfl, q1⟩ := q1
  cases r1
  refine wpAny_truthy_bool ?_
  cases c with
  | true => exact hb pins s1 σ H1 Q I1 q1
  | false => exact ⟨.bl false, H1, I1, rfl, q1⟩
def tIf (t : TT) (ta tb : TE) : TE := fun σ H Q => t σ H fun c H1 => if c = true then ta σ H1 Q else tb σ H1 Q
end
end L2
namespace L2
open PySem PySem.Spec PyProof.Rows
def SqL (K : PySem.W.Frag) (H : Hp) (a : Addr) (xs : List V) : Prop :=
  Rd H a (.lst xs) ∨
    ∃ (o : Obj) (its : Array Value) (n : Nat), K.lookup a = some o ∧ o.cls = .type "list" ∧ o.dict = none ∧ o.data = .seq its n ∧ its.size ≤ sizeLine ∧ Vals xs its.toList
def SqT (K : PySem.W.Frag) (H : Hp) (a : Addr) (xs : List V) : Prop :=
  Rd H a (.tup xs) ∨
    ∃ (o : Obj) (its : Array Value) (n : Nat), K.lookup a = some o ∧ o.cls = .type "tuple" ∧ o.data = .seq its n ∧ its.size ≤ sizeLine ∧ Vals xs its.toList
def absV : Value → Option V
  | .none => some .non
  | .bool b => some (.bl b)
  | .int i _ => some (.int i)
  | .str x _ => some (.str x)
  | .bytes b _ => some (.byt b)
  | .float b _ => some (.flt b)
  | .ref a => some (.ref a)
  | .type n => some (.ty n)
  | _ => none
theorem RelV.abs {x : V} {u : Value} (r : RelV x u) : absV u = some x := by
  cases x with
  | non => cases r; rfl
  | bl _ => cases r; rfl
  | int _ => obtain ⟨t, rfl⟩ := r; rfl
  | str _ => obtain ⟨t, rfl⟩ := r; rfl
  | byt _ => obtain ⟨t, rfl⟩ := r; rfl
  | flt _ => obtain ⟨t, rfl⟩ := r; rfl
  | ref _ => cases r; rfl
  | ty _ => cases r; rfl
theorem RelV.inj {x y : V} {u : Value} (r : RelV x u) (q : RelV y u) : x = y := Option.some.inj (r.abs.symm.trans q.abs)
theorem Vals.inj : ∀ {xs ys : List V} {us : List Value}, Vals xs us → Vals ys us → xs = ys
  | _, _, _, .nil, .nil => rfl
  | _, _, _, .cons r t, .cons r' t' => by rw [r.inj r', Vals.inj t t']
section
variable {X : Cx} {pins : List (Addr × Obj)} {σ : St} {H : Hp} {s : Shared} {a : Addr} {xs ys : List V}
theorem SqL.of {K : PySem.W.Frag} (h : H a = some (.lst xs)) : SqL K H a xs := .inl (.inl h)
theorem SqT.of {K : PySem.W.Frag} (h : H a = some (.tup xs)) : SqT K H a xs := .inl (.inl h)
theorem Inv.list (I : Inv X pins σ H s) (h : SqL X.K H a xs) : ∃ its : List Value, Vals xs its ∧ PlainL s.heap a its.toArray ∧ xs.length ≤ sizeLine := by
  rcases h with h | ⟨o, its, n, hk, hc, hd, hs, hz, r⟩
  · obtain ⟨z, its, n, r, e⟩ := h.ok I.hok
    exact ⟨its, r, ⟨_, n, e, rfl, rfl, rfl⟩, z⟩
  · refine ⟨its.toList, r, ⟨o, n, I.kIn a o hk, hc, hd, by simpa using hs⟩, ?_⟩
    have e := r.length
    simp only [Array.length_toList] at e
    omega
theorem Inv.tuple (I : Inv X pins σ H s) (h : SqT X.K H a xs) : ∃ its : List Value, Vals xs its ∧ IsTup s.heap a its.toArray ∧ xs.length ≤ sizeLine := by
  rcases h with h | ⟨o, its, n, hk, hc, hs, hz, r⟩
  · obtain ⟨z, its, r, p⟩ := h.ok I.hok
    exact ⟨its, r, p, z⟩
  · refine ⟨its.toList, r, ⟨o, I.kIn a o hk, hc, n, by simpa using hs⟩, ?_⟩
    have e := r.length
    simp only [Array.length_toList] at e
    omega
theorem Inv.list_inj (I : Inv X pins σ H s) (h : SqL X.K H a xs) (h' : SqL X.K H a ys) : xs = ys := by
  obtain ⟨its, r, ⟨o, n, e, _, _, d⟩, _⟩ := I.list h
  obtain ⟨its', r', ⟨o', n', e', _, _, d'⟩, _⟩ := I.list h'
  rw [e] at e'; cases e'
  rw [d] at d'
  injection d' with d1 _
  have : its = its' := by simpa using congrArg Array.toList d1
  subst this
  exact r.inj r'
theorem Inv.tuple_inj (I : Inv X pins σ H s) (h : SqT X.K H a xs) (h' : SqT X.K H a ys) : xs = ys := by
  obtain ⟨its, r, ⟨o, e, _, n, d⟩, _⟩ := I.tuple h
  obtain ⟨its', r', ⟨o', e', _, n', d'⟩, _⟩ := I.tuple h'
  rw [e] at e'; cases e'
  rw [d] at d'
  injection d' with d1 _
  have : its = its' := by simpa using congrArg Array.toList d1
  subst this
  exact r.inj r'
end
abbrev Cx.wish (X : Cx) (E : Value → Shared → Prop) : Cx := { X with xe := E }
abbrev Cx.nox (X : Cx) : Cx := X.wish fun _ _ => False
theorem Cx.Ok.wish {X : Cx} (ok : X.Ok) (E : Value → Shared → Prop) : (X.wish E).Ok :=
  ⟨ok.mod, ok.kind, ok.glob, ok.blt, ok.above, ok.inj, ok.has, ok.cab, ok.hd, ok.frames, ok.stk, ok.exf, ok.bs, ok.bsz, ok.noex, ok.exfs, ok.funs, ok.frf⟩
theorem Cx.Ok.unwish {X : Cx} {E : Value → Shared → Prop} (ok : (X.wish E).Ok) : X.Ok :=
  ⟨ok.mod, ok.kind, ok.glob, ok.blt, ok.above, ok.inj, ok.has, ok.cab, ok.hd, ok.frames, ok.stk, ok.exf, ok.bs, ok.bsz, ok.noex, ok.exfs, ok.funs, ok.frf⟩
section
variable {X : Cx} {pins : List (Addr × Obj)} {σ : St} {H : Hp} {s : Shared} {E : Value → Shared → Prop}
theorem Inv.wish (I : Inv X pins σ H s) (E : Value → Shared → Prop) : Inv (X.wish E) pins σ H s := ⟨I.ok.wish E, I.os, I.bare, I.base, I.loc, I.cell, I.free, I.freeC, I.pin, I.hok, I.len⟩
theorem Inv.unwish (I : Inv (X.wish E) pins σ H s) : Inv X pins σ H s := ⟨I.ok.unwish, I.os, I.bare, I.base, I.loc, I.cell, I.free, I.freeC, I.pin, I.hok, I.len⟩
theorem SP.unwish {D : Ends} {f : Flow} {s' : Shared} (h : SP (X.wish E) pins D f s') : SP X pins D f s' := by
  cases f with
  | next => obtain ⟨σ', H', I, q⟩ := h; exact ⟨σ', H', I.unwish, q⟩
  | brk => obtain ⟨σ', H', I, q⟩ := h; exact ⟨σ', H', I.unwish, q⟩
  | cont => obtain ⟨σ', H', I, q⟩ := h; exact ⟨σ', H', I.unwish, q⟩
  | ret u => obtain ⟨v, σ', H', I, r, q⟩ := h; exact ⟨v, σ', H', I.unwish, r, q⟩
theorem PE.nox {e : Expr} {t : TE} (h : PE X.nox e t) : PE X e t := .mk <| fun pins s σ H Q I hw =>
  wpAny_mono (h pins s σ H Q (I.wish _) hw) (fun _ _ ⟨v, H', I', r, q⟩ => ⟨v, H', I'.unwish, r, q⟩) fun _ _ z => False.elim z
theorem PT.nox {e : Expr} {t : TT} (h : PT X.nox e t) : PT X e t := .mk <| fun pins s σ H Q I hw =>
  wpAny_mono (h pins s σ H Q (I.wish _) hw) (fun _ _ ⟨H', I', q⟩ => ⟨H', I'.unwish, q⟩) fun _ _ z => False.elim z
theorem PSs.nox {st : List Stmt} {t : TS} (h : PSs X.nox st t) : PSs X st t := .mk <| fun pins s σ H D I hw =>
  wpAny_mono (h pins s σ H D (I.wish _) hw) (fun _ _ q => q.unwish) fun _ _ z => False.elim z
end
section
variable {X : Cx} {st : Stmt} {rest : List Stmt} {t u : TS} {e : Expr} {te : TE} {pos : Pos}
def tNext : TS := fun D σ H => D.nx σ H
def tSeq (t u : TS) : TS := fun D σ H => t { D with nx := u D } σ H
theorem pss_nil : PSs X [] tNext := .mk <| fun _ _ σ H _ I h => wpAny_execs_nil ⟨σ, H, I, h⟩
theorem pss_cons (h1 : PS X st t) (h2 : PSs X rest u) : PSs X (st :: rest) (tSeq t u) := by
  refine ⟨?_⟩
  intro pins s σ H D I h
  refine wpAny_execs_cons (thn (h1 pins s σ H { D with nx := u D } I h) fun f s1 q => ?_)
  cases f with
  | next =>
    obtain ⟨σ', H', I', q⟩ := q
    exact h2 pins s1 σ' H' D I' q
  | ret v => exact q
  | brk => exact q
  | cont => exact q
theorem pss_one (h1 : PS X st t) : PSs X [st] t := by
  refine ⟨?_⟩
  intro pins s σ H D I h
  refine wpAny_execs_cons (thn (h1 pins s σ H D I h) fun f s1 q => ?_)
  cases f with
  | next => exact wpAny_execs_nil q
  | ret v => exact q
  | brk => exact q
  | cont => exact q
def tBreak : TS := fun D σ H => D.bk σ H
def tCont : TS := fun D σ H => D.ct σ H
theorem Inv.quiet {pins : List (Addr × Obj)} {σ : St} {H : Hp} {s : Shared} (I : Inv X pins σ H s) : interactive X.env = false := by simp [interactive, I.ok.kind]
def tDrop (te : TE) : TS := fun D σ H => te σ H fun _ H1 => D.nx σ H1
theorem ps_expr (he : PE X e te) (hs : swapsWith e none pos.line X.env = pure false := by rfl) : PS X (.Expr e pos) (tDrop te) := by
  refine ⟨?_⟩
  intro pins s σ H D I h
  exact wpAny_Expr_any (thn (he pins s σ H _ I h) fun v s1 ⟨x, H1, I1, r1, q1⟩ => ⟨σ, H1, I1, q1⟩) I.quiet hs
def tRet (te : TE) : TS := fun D σ H => te σ H D.rt
theorem ps_ret (he : PE X e te) : PS X (.Return (some e) pos) (tRet te) := by
  refine ⟨?_⟩
  intro pins s σ H D I h
  exact wpAny_Return_some (thn (he pins s σ H _ I h) fun v s1 ⟨x, H1, I1, r1, q1⟩ => ⟨x, σ, H1, I1, r1, q1⟩)
def tRetN : TS := fun D _ H => D.rt .non H
def tIfS (c : TT) (t u : TS) : TS := fun D σ H => c σ H fun b H1 => if b = true then t D σ H1 else u D σ H1
theorem ps_if {c : Expr} {a b : List Stmt} {tc : TT} (hc : PT X c tc) (ha : PSs X a t) (hb : PSs X b u) : PS X (.If c a b pos) (tIfS tc t u) := by
  refine ⟨?_⟩
  intro pins s σ H D I h
  refine wpAny_If (thn (hc pins s σ H _ I h) fun d s1 ⟨H1, I1, q1⟩ => ?_)
  cases d with
  | true => exact ha pins s1 σ H1 D I1 q1
  | false => exact hb pins s1 σ H1 D I1 q1
def tNever : TS := fun _ _ _ => False
end
abbrev TG := V → St → Hp → (St → Hp → Prop) → Prop
abbrev TGs := List V → St → Hp → (St → Hp → Prop) → Prop
def PG (X : Cx) (target : Expr) (t : TG) : Prop :=
  ∀ (pins : List (Addr × Obj)) (s : Shared) (σ : St) (H : Hp) (v : V) (u : Value) (Q : St → Hp → Prop), Inv X pins σ H s → RelV v u → t v σ H Q →
    wpAny (model X.prog X.w) X.A (assign target X.env u) (fun _ s' => ∃ σ' H', Inv X pins σ' H' s' ∧ Q σ' H') X.xe s
def PGs (X : Cx) (ts : List Expr) (t : TGs) : Prop :=
  ∀ (pins : List (Addr × Obj)) (s : Shared) (σ : St) (H : Hp) (vs : List V) (us : List Value) (Q : St → Hp → Prop), Inv X pins σ H s → Vals vs us → t vs σ H Q →
    wpAny (model X.prog X.w) X.A (assignInOrder ((assignEach ts X.env).map (·.2)) us) (fun _ s' => ∃ σ' H', Inv X pins σ' H' s' ∧ Q σ' H') X.xe s
abbrev TSet := V → V → V → Hp → (Hp → Prop) → Prop
def PSet (X : Cx) (t : TSet) : Prop :=
  ∀ (pins : List (Addr × Obj)) (s : Shared) (σ : St) (H : Hp) (o i v : V) (ov iv u : Value) (Q : Hp → Prop), Inv X pins σ H s → RelV o ov → RelV i iv → RelV v u → t o i v H Q →
    wpAny (model X.prog X.w) X.A (setItem ov iv u) (fun _ s' => ∃ H', Inv X pins σ H' s' ∧ Q H') X.xe s
abbrev TIp := V → V → Hp → VK → Prop
def PIp (X : Cx) (op : Operator) (t : TIp) : Prop :=
  ∀ (pins : List (Addr × Obj)) (s : Shared) (σ : St) (H : Hp) (x y : V) (v u : Value) (Q : VK), Inv X pins σ H s → RelV x v → RelV y u → t x y H Q →
    wpAny (model X.prog X.w) X.A (inplaceOp op v u) (EP X pins σ Q) X.xe s
section
variable {X : Cx} {pos : Pos}
def gName (i : Nat) : TG := fun v σ H Q => Q (σ.set i (some v)) H
theorem pg_name {i : Nat} {x : Str} (hN : X.N.Nodup) (hi : X.N[i]? = some x) (hx : Loc X.env.scope x) (hf : X.fn x = true ∨ X.env.scope.names.lookup x = some .local := by first | exact .inl rfl | exact .inr rfl | assumption) : PG X (.Name x pos) (gName i) := by
  intro pins s σ H v u Q I r h
  exact wpAny_assign_Name (store_ok I hN hi hx r (fun s' I' => ⟨_, H, I', h⟩) hf)
def gNil : TGs := fun vs σ H Q => vs = [] ∧ Q σ H
def gCons (t : TG) (u : TGs) : TGs := fun vs σ H Q => ∃ v r, vs = v :: r ∧ t v σ H fun σ' H' => u r σ' H' Q
theorem pgs_nil : PGs X [] gNil := by
  intro pins s σ H vs us Q I r h
  obtain ⟨e, h⟩ := h
  subst e
  cases r
  exact assignInOrder_nil ⟨σ, H, I, h⟩
theorem pgs_cons {e : Expr} {es : List Expr} {t : TG} {u : TGs} (h1 : PG X e t) (h2 : PGs X es u)
    (hs : (assignEach (e :: es) X.env).map (·.2) = assign e X.env :: (assignEach es X.env).map (·.2) := by rfl) : PGs X (e :: es) (gCons t u) := by
  intro pins s σ H vs us Q I r h
  obtain ⟨v, vr, e1, h⟩ := h
  subst e1
  cases r with
  | cons r rr =>
    rw [hs]
    refine assignInOrder_cons (thn (h1 pins s σ H _ _ _ I r h) fun _ s1 ⟨σ1, H1, I1, q1⟩ => ?_)
    exact h2 pins s1 σ1 H1 _ _ Q I1 rr q1
def gTup (K : PySem.W.Frag) (n : Nat) (t : TGs) : TG := fun v σ H Q => ∃ a xs, v = .ref a ∧ SqT K H a xs ∧ xs.length = n ∧ t xs σ H Q
theorem pg_tup {es : List Expr} {k : Nat} {t : TGs} {n : Nat} (hc : X.calm = true) (h : PGs X es t)
    (hn : (assignEach es X.env).length = n := by rfl) (hst : (assignEach es X.env).findIdx? (·.1) = none := by rfl) : PG X (.Tuple es k pos) (gTup X.K n t) := by
  intro pins s σ H v u Q I r hw
  obtain ⟨a, xs, e1, hq, hl, hw⟩ := hw
  subst e1
  cases r
  obtain ⟨its, rv, ht, hz⟩ := I.tuple hq
  refine assign_Tuple_tuple (I.ok.hd hc) ht (by simp [hn, ← hl, rv.length]) hst fun h' hx => ?_
  have I1 : Inv X pins σ H { s with heap := h' } := I.kept (t' := s.toks) fun b o e => hx b o (Nat.ne_of_lt (Heap.lt_size e)) e
  exact h pins _ σ H xs _ Q I1 (by simpa using rv) hw
def gSub (to ti : TE) (t : TSet) : TG := fun v σ H Q => to σ H fun o H1 => ti σ H1 fun i H2 => t o i v H2 fun H3 => Q σ H3
def tAsg (te : TE) (g : TG) : TS := fun D σ H => te σ H fun x H1 => g x σ H1 D.nx
theorem ps_set {i : Nat} {x : Str} {e : Expr} {te : TE} {pos' : Pos} (hN : X.N.Nodup) (hi : X.N[i]? = some x) (hx : Loc X.env.scope x) (he : PE X e te) (hs : swapsWith e (some (.Name x pos')) pos.line X.env = pure false := by rfl) (hf : X.fn x = true ∨ X.env.scope.names.lookup x = some .local := by first | exact .inl rfl | exact .inr rfl | assumption) :
    PS X (.Assign [.Name x pos'] e pos) (tAsg te (gName i)) := by
  refine ⟨?_⟩
  intro pins s σ H D I h
  refine wpAny_Assign_Name (thn (he pins s σ H _ I h) fun v s1 ⟨y, H1, I1, r1, q1⟩ => ?_) hs
  exact store_ok I1 hN hi hx r1 (fun s2 I2 => ⟨_, H1, I2, q1⟩) hf
def tPar (i j : Nat) (ta : TA) : TS := fun D σ H => ta σ H fun vs H1 => ∃ v w, vs = [v, w] ∧ D.nx ((σ.set i (some v)).set j (some w)) H1
def tAug (i : Nat) (te : TE) (ti : TIp) : TS := fun D σ H => ∃ x, σ[i]? = some (some x) ∧ te σ H fun y H1 => ti x y H1 fun z H2 => D.nx (σ.set i (some z)) H2
def tAugS (to ti te : TE) (tget : V → V → Hp → VK → Prop) (tip : TIp) (tset : TSet) : TS := fun D σ H => to σ H fun o H1 => ti σ H1 fun i H2 => tget o i H2 fun x H3 => te σ H3 fun y H4 => tip x y H4 fun z H5 => tset o i z H5 fun H6 => D.nx σ H6
def PGet (X : Cx) (t : V → V → Hp → VK → Prop) : Prop :=
  ∀ (pins : List (Addr × Obj)) (s : Shared) (σ : St) (H : Hp) (o i : V) (ov iv : Value) (Q : VK), Inv X pins σ H s → RelV o ov → RelV i iv → t o i H Q →
    wpAny (model X.prog X.w) X.A (getItem ov iv) (EP X pins σ Q) X.xe s
def ipI (f : Int → Int → Int) : TIp := fun x y H Q => ∃ i j, x = .int i ∧ y = .int j ∧ Q (.int (f i j)) H
end
section
variable {X : Cx} {pos : Pos}
def tWhile (c : TT) (tb : TS) : TS := fun D σ H => ∃ W : Nat → St → Hp → Prop, (∃ m, W m σ H) ∧ ∀ m σ H, W m σ H →
  c σ H fun b H1 => if b = true then ∃ N : St → Hp → Prop, (∀ σ' H', N σ' H' → ∃ m', m' < m ∧ W m' σ' H') ∧ tb { D with nx := N, ct := N, bk := D.nx } σ H1 else D.nx σ H1
end
structure It where
  go : Nat → Hp → Prop
  yld : Nat → Hp → V → Hp → Prop
  stop : Nat → Hp → Prop
def FpOk (X : Cx) (pins : List (Addr × Obj)) (H : Hp) (b : Addr) : Prop :=
  H b = none ∧ b ≠ X.env.locals ∧ b ∉ X.fs ∧ (b ∈ X.ex ∨ X.s_0.heap.objs.size ≤ b) ∧ (∀ x c, X.env.cells.lookup x = some c → c ≠ b) ∧ ∀ p ∈ X.pn ++ pins, p.1 ≠ b
theorem Inv.fpOk {X : Cx} {pins : List (Addr × Obj)} {σ : St} {H H' : Hp} {s : Shared} {b : Addr} (I : Inv X pins σ H s) (hb : s.heap.objs.size ≤ b) (hn : H' b = none) : FpOk X pins H' b := by
  refine ⟨hn, Nat.ne_of_gt (Nat.lt_of_lt_of_le I.lt hb), I.nofs hb, .inr (Nat.le_trans I.sz hb), fun x c e z => ?_, fun p hp z => ?_⟩
  · obtain ⟨v, q⟩ := I.cell x c e
    exact absurd (Nat.lt_of_lt_of_le q.lt (by rw [z]; exact hb)) (Nat.lt_irrefl _)
  · exact absurd (Nat.lt_of_lt_of_le (Heap.lt_size (I.pin p hp).1) (by rw [z]; exact hb)) (Nat.lt_irrefl _)
structure Turn (P : Program) (w : World) (K : PySem.W.Frag) (tg : Expr) (J : It) (fp : List Addr) (it : Addr) (tn : Nat → Heap → Prop) : Prop where
  mem : it ∈ fp
  obj : ∀ i h, tn i h → ∀ b ∈ fp, ∃ o, h.get? b = some o ∧ ∀ v, o.data ≠ .cell v
  keep : ∀ i h h', tn i h → (∀ b ∈ fp, ∀ o, h.get? b = some o → h'.get? b = some o) → tn i h'
  item : ∀ (X : Cx), X.prog = P → X.w = w → X.K = K → X.calm = true → ∀ (i : Nat) (pins : List (Addr × Obj)) (s : Shared) (σ : St) (H : Hp) (E : Value → Shared → Prop), Inv X pins σ H s → (∀ b ∈ fp, FpOk X pins H b) → tn i s.heap → J.go i H →
    wpAny (model P w) X.A (pyNext (.ref it)) (fun r s1 => ∃ u, r = some u ∧
      wpAny (model P w) X.A (letOwnedTupleGo tg (.ref it) u) (fun _ s2 => ∃ x H', Inv X pins σ H' s2 ∧ RelV x u ∧ J.yld i H x H' ∧ tn (i + 1) s2.heap ∧ ∀ b ∈ fp, H' b = none) E s1) E s
  done : ∀ (X : Cx), X.prog = P → X.w = w → X.K = K → X.calm = true → ∀ (i : Nat) (pins : List (Addr × Obj)) (s : Shared) (σ : St) (H : Hp) (E : Value → Shared → Prop), Inv X pins σ H s → (∀ b ∈ fp, FpOk X pins H b) → tn i s.heap → J.stop i H →
    wpAny (model P w) X.A (pyNext (.ref it)) (fun r s1 => r = none ∧ Inv X pins σ H s1) E s
  self : ∀ (A : Around) (i : Nat) (s : Shared) (Q : Value → Shared → Prop) (E : Value → Shared → Prop), tn i s.heap → Q (.ref it) s → wpAny (model P w) A (pyIter (.ref it)) Q E s
abbrev TI := St → Hp → (It → Hp → Prop) → Prop
def PIE (X : Cx) (pins : List (Addr × Obj)) (σ : St) (tg : Expr) (R : It → Hp → Prop) (itv : Value) (s2 : Shared) : Prop :=
  ∃ (it : Addr) (fp : List Addr) (tn : Nat → Heap → Prop) (J : It) (H' : Hp), itv = .ref it ∧ Inv X pins σ H' s2 ∧ Turn X.prog X.w X.K tg J fp it tn ∧ tn 0 s2.heap ∧ (∀ b ∈ fp, FpOk X pins H' b) ∧ R J H'
def PI (X : Cx) (tg iter : Expr) (wi : TI) : Prop :=
  ∀ (pins : List (Addr × Obj)) (s : Shared) (σ : St) (H : Hp) (R : It → Hp → Prop), Inv X pins σ H s → wi σ H R →
    wpAny (model X.prog X.w) X.A (eval iter X.env) (fun v s1 => wpAny (model X.prog X.w) X.A (pyIter v) (PIE X pins σ tg R) X.xe s1) X.xe s
theorem go_of {M : Model} {A : Around} {E : Value → Shared → Prop} {s : Shared} {tg : Expr} {it : Addr} {u : Value} {o : Obj} {n : String} {vs : Array Value} {Q : Unit → Shared → Prop} (ho : s.heap.get? it = some o) (hc : o.cls = .type n) (hd : o.data = .fields vs)
    (hn : ["enumerate", "zip", "dict_itemiterator", "dict_reverseitemiterator", "odict_iterator", "itertools.zip_longest", "itertools.pairwise"].contains n = false) (hQ : Q () s) : wpAny M A (letOwnedTupleGo tg (.ref it) u) Q E s := by
  unfold letOwnedTupleGo
  cases tg <;> first
    | exact wpAny_pure hQ
    | (cases u <;> first
        | exact wpAny_pure hQ
        | (refine wpAny_bind (wpAny_load ho ?_)
           rw [hc, hd]
           show wpAny M A (if (["enumerate", "zip", "dict_itemiterator", "dict_reverseitemiterator", "odict_iterator", "itertools.zip_longest", "itertools.pairwise"].contains n && vs[0]? == some (rawInt _)) = true then _ else _) Q E s
           rw [if_neg (by intro h; rw [hn, Bool.false_and] at h; cases h)]
           exact wpAny_pure hQ))
def Itl (K : PySem.W.Frag) (a : Addr) : It :=
  ⟨fun i H => ∃ xs x, SqL K H a xs ∧ xs[i]? = some x, fun i H x H' => H' = H ∧ ∀ xs, SqL K H a xs → xs[i]? = some x, fun i H => ∃ xs, SqL K H a xs ∧ xs.length ≤ i⟩
def Itt (K : PySem.W.Frag) (a : Addr) : It :=
  ⟨fun i H => ∃ xs x, SqT K H a xs ∧ xs[i]? = some x, fun i H x H' => H' = H ∧ ∀ xs, SqT K H a xs → xs[i]? = some x, fun i H => ∃ xs, SqT K H a xs ∧ xs.length ≤ i⟩
def Itr (lo : Int) (n : Nat) : It := ⟨fun i _ => i < n, fun i H x H' => H' = H ∧ x = .int (lo + i), fun i _ => n ≤ i⟩
theorem turn_list {P : Program} {w : World} {K : PySem.W.Frag} {tg : Expr} (a it : Addr) : Turn P w K tg (Itl K a) [it] it (fun i h => h.IsListIter it a i) where
  mem := by simp
  obj := fun i h st b hb => by
    have e : b = it := by simpa using hb
    subst e
    obtain ⟨o, e, c, d⟩ := st
    exact ⟨o, e, fun v z => by rw [d] at z; cases z⟩
  keep := fun i h h' st k => st.at fun o e => k it (by simp) o e
  item := by
    intro X hP hw hK hc i pins s σ H E I hf st hg
    subst hP hw hK
    obtain ⟨xs, x, hq, hx⟩ := hg
    obtain ⟨its, rv, p, hz⟩ := I.list hq
    obtain ⟨u, hu, ru⟩ := rv.get hx
    obtain ⟨f0, f1, f2, f3, f4, f5⟩ := hf it (by simp)
    refine wpAny_pyNext_list_item st p.isList (x := u) (by simpa using hu) fun h' st' sb => ?_
    have I1 : Inv X pins σ H { s with heap := h' } := I.turned (t' := s.toks) (fun b o hb e => (sb.2 b hb).trans e) f0 f1 f3 f4 f5
    obtain ⟨o, e, c, d⟩ := id st'
    exact ⟨u, rfl, go_of (s := { s with heap := h' }) e c d (by decide) ⟨x, H, I1, ru, ⟨rfl, fun ys hy => by rw [I.list_inj hy hq]; exact hx⟩, st', fun b hb => (hf b hb).1⟩⟩
  done := by
    intro X hP hw hK hc i pins s σ H E I hf st hg
    subst hP hw hK
    obtain ⟨xs, hq, hx⟩ := hg
    obtain ⟨its, rv, p, hz⟩ := I.list hq
    obtain ⟨f0, f1, f2, f3, f4, f5⟩ := hf it (by simp)
    have hl := rv.length
    exact wpAny_pyNext_list_end (I.ok.hd hc) st p.isList (by simp; omega) fun h' eb => ⟨rfl, I.turned (t' := s.toks) (fun b o hb e => eb b o hb e) f0 f1 f3 f4 f5⟩
  self := fun _ _ _ _ _ st h => wpAny_pyIter_listiter st h
theorem turn_tuple {P : Program} {w : World} {K : PySem.W.Frag} {tg : Expr} (a it : Addr) : Turn P w K tg (Itt K a) [it] it (fun i h => h.IsTupleIter it a i) where
  mem := by simp
  obj := fun i h st b hb => by
    have e : b = it := by simpa using hb
    subst e
    obtain ⟨o, e, c, d⟩ := st
    exact ⟨o, e, fun v z => by rw [d] at z; cases z⟩
  keep := fun i h h' st k => st.at fun o e => k it (by simp) o e
  item := by
    intro X hP hw hK hc i pins s σ H E I hf st hg
    subst hP hw hK
    obtain ⟨xs, x, hq, hx⟩ := hg
    obtain ⟨its, rv, p, hz⟩ := I.tuple hq
    obtain ⟨u, hu, ru⟩ := rv.get hx
    obtain ⟨f0, f1, f2, f3, f4, f5⟩ := hf it (by simp)
    refine wpAny_pyNext_tuple_item st (show s.heap.IsTuple a its.toArray from p) (x := u) (by simpa using hu) fun h' st' sb => ?_
    have I1 : Inv X pins σ H { s with heap := h' } := I.turned (t' := s.toks) (fun b o hb e => (sb.2 b hb).trans e) f0 f1 f3 f4 f5
    obtain ⟨o, e, c, d⟩ := id st'
    exact ⟨u, rfl, go_of (s := { s with heap := h' }) e c d (by decide) ⟨x, H, I1, ru, ⟨rfl, fun ys hy => by rw [I.tuple_inj hy hq]; exact hx⟩, st', fun b hb => (hf b hb).1⟩⟩
  done := by
    intro X hP hw hK hc i pins s σ H E I hf st hg
    subst hP hw hK
    obtain ⟨xs, hq, hx⟩ := hg
    obtain ⟨its, rv, p, hz⟩ := I.tuple hq
    obtain ⟨f0, f1, f2, f3, f4, f5⟩ := hf it (by simp)
    have hl := rv.length
    exact wpAny_pyNext_tuple_end (I.ok.hd hc) st (show s.heap.IsTuple a its.toArray from p) (by simp; omega) fun h' eb => ⟨rfl, I.turned (t' := s.toks) (fun b o hb e => eb b o hb e) f0 f1 f3 f4 f5⟩
  self := fun _ _ _ _ _ st h => wpAny_pyIter_tupleiter st h
theorem turn_range {P : Program} {w : World} {K : PySem.W.Frag} {tg : Expr} (it : Addr) (lo : Int) (n : Nat) : Turn P w K tg (Itr lo n) [it] it (fun i h => IsRangeIter h it (lo + (i : Nat) * 1) ((n : Int) - (i : Nat)) 1) where
  mem := by simp
  obj := fun i h st b hb => by
    have e : b = it := by simpa using hb
    subst e
    exact ⟨_, st, fun v z => by
      have z' : Data.fields _ = Data.cell v := z
      cases z'⟩
  keep := fun i h h' st k => k it (by simp) _ st
  item := by
    intro X hP hw hK hc i pins s σ H E I hf st hg
    subst hP hw hK
    obtain ⟨f0, f1, f2, f3, f4, f5⟩ := hf it (by simp)
    have W := Walks.range (prog := X.prog) (w := X.w) (I.ok.hd hc) it lo 1 n
    refine W.item i s _ _ hg st fun v h' tk hv st' kk => ?_
    obtain ⟨t, rfl⟩ := hv
    have I1 : Inv X pins σ H { s with heap := h', toks := tk } := I.turned (fun b o hb e => kk b o (by simpa using hb) e) f0 f1 f3 f4 f5
    refine ⟨_, rfl, go_of (s := { s with heap := h', toks := tk }) (n := "range_iterator") st' rfl rfl (by decide) ⟨.int (lo + i), H, I1, ⟨t, ?_⟩, ⟨rfl, rfl⟩, st', fun b hb => (hf b hb).1⟩⟩
    rw [Int.mul_one]
  done := by
    intro X hP hw hK hc i pins s σ H E I hf st hg
    subst hP hw hK
    obtain ⟨f0, f1, f2, f3, f4, f5⟩ := hf it (by simp)
    exact wpAny_pyNext_range_end (I.ok.hd hc) st (by have : n ≤ i := hg; omega) fun h' eb => ⟨rfl, I.turned (t' := s.toks) (fun b o hb e => eb b o hb e) f0 f1 f3 f4 f5⟩
  self := fun _ _ _ _ _ st h => wpAny_pyIter_rangeiter st h
end L2
namespace L2
open PySem PySem.Spec PyProof.Rows
section
variable {X : Cx} {tg : Expr}
def iList (K : PySem.W.Frag) (tl : TE) : TI := fun σ H R => tl σ H fun x H1 => ∃ a, x = .ref a ∧ (∃ xs, SqL K H1 a xs) ∧ R (Itl K a) H1
def iTup (K : PySem.W.Frag) (tl : TE) : TI := fun σ H R => tl σ H fun x H1 => ∃ a, x = .ref a ∧ (∃ xs, SqT K H1 a xs) ∧ R (Itt K a) H1
theorem range_it {pins : List (Addr × Obj)} {σ : St} {H : Hp} {s : Shared} {R : It → Hp → Prop} {E : Value → Shared → Prop} {lo hi : Int} {t u v : Tok} {tk : Nat} (I : Inv X pins σ H s) (h1 : -(2 ^ 62) ≤ lo) (h2 : lo < 2 ^ 62) (h3 : -(2 ^ 62) ≤ hi) (h4 : hi < 2 ^ 62)
    (q : R (Itr lo (hi - lo).toNat) H) : wpAny (model X.prog X.w) X.A (pyIter (.ref s.heap.objs.size)) (PIE X pins σ tg R) E { s with heap := s.heap.push { cls := .type "range", data := .fields #[.int lo t, .int hi u, .int 1 v] }, toks := tk } := by
  refine wpAny_pyIter_range (IsRange.new ..) (small_one h1 h2 h3 h4) ?_
  have I1 : Inv X pins σ H { s with heap := s.heap.push { cls := .type "range", data := .fields #[.int lo t, .int hi u, .int 1 v] }, toks := tk } := I.kept fun b o e => Heap.get?_push_of_some _ e
  refine ⟨(s.heap.push { cls := .type "range", data := .fields #[.int lo t, .int hi u, .int 1 v] }).objs.size, [(s.heap.push { cls := .type "range", data := .fields #[.int lo t, .int hi u, .int 1 v] }).objs.size], _, _, H, rfl,
    I1.kept (t' := tk) fun b o e => Heap.get?_push_of_some _ e, turn_range _ lo (hi - lo).toNat, ?_, fun b hb => ?_, q⟩
  · have e1 : lo + ((0 : Nat) : Int) * 1 = lo := by simp
    have e2 : (((hi - lo).toNat : Nat) : Int) - ((0 : Nat) : Int) = Builtin.Range.rangeSize lo hi 1 := by rw [rangeSize_one]; split <;> omega
    show IsRangeIter _ _ (lo + ((0 : Nat) : Int) * 1) ((((hi - lo).toNat : Nat) : Int) - ((0 : Nat) : Int)) 1
    rw [e1, e2]
    exact Heap.get?_push_size _ rfl
  · have e : b = (s.heap.push { cls := .type "range", data := .fields #[.int lo t, .int hi u, .int 1 v] }).objs.size := by simpa using hb
    subst e
    exact I1.fpOk (Nat.le_refl _) (I1.hok.fresh (Nat.le_refl _))
def iRng1 (ta : TA) : TI := fun σ H R => ta σ H fun vs H1 => ∃ j : Int, vs = [.int j] ∧ -(2 ^ 62) ≤ j ∧ j < 2 ^ 62 ∧ R (Itr 0 j.toNat) H1
def iRng2 (ta : TA) : TI := fun σ H R => ta σ H fun vs H1 => ∃ i j : Int, vs = [.int i, .int j] ∧ (-(2 ^ 62) ≤ i ∧ i < 2 ^ 62 ∧ -(2 ^ 62) ≤ j ∧ j < 2 ^ 62) ∧ R (Itr i (j - i).toNat) H1
theorem pi_range1 {a : Expr} {ta : TA} {p pos : Pos} (hg : Gl X "range") (hm : X.mg "range" = none) (ha : PA X [a] ta) (hs : starEach [a] X.env = [(false, eval a X.env)] := by rfl) : PI X tg (.Call (.Name "range" p) [a] [] pos) (iRng1 ta) := by
  intro pins s σ H R I h
  refine Call_ (ld_blt I hg hm boot_range (PyProof.Rows.callWith_type1 (thn (ha pos pins s σ H _ I h) fun us s1 ⟨vs, H1, I1, r1, q1⟩ => ?_) hs rfl))
  obtain ⟨j, e, q1, q2, q⟩ := q1
  subst e
  cases r1 with
  | cons r rr =>
    cases rr
    obtain ⟨t, rfl⟩ := r
    exact call_range_1 (range_it I1 (by omega) (by omega) q1 q2 (by simpa using q))
theorem pi_range2 {a b : Expr} {ta : TA} {p pos : Pos} (hg : Gl X "range") (hm : X.mg "range" = none) (ha : PA X [a, b] ta) (hs : starEach [a, b] X.env = [(false, eval a X.env), (false, eval b X.env)] := by rfl) (hs2 : starEach [b] X.env = [(false, eval b X.env)] := by rfl) :
    PI X tg (.Call (.Name "range" p) [a, b] [] pos) (iRng2 ta) := by
  intro pins s σ H R I h
  refine Call_ (ld_blt I hg hm boot_range (PyProof.Rows.callWith_type1 (thn (ha pos pins s σ H _ I h) fun us s1 ⟨vs, H1, I1, r1, q1⟩ => ?_) (by rw [hs, hs2]) (by rw [hs2]; rfl)))
  obtain ⟨i, j, e, ⟨q1, q2, q3, q4⟩, q⟩ := q1
  subst e
  cases r1 with
  | cons r rr =>
    cases rr with
    | cons r' rr =>
      cases rr
      obtain ⟨t, rfl⟩ := r
      obtain ⟨t', rfl⟩ := r'
      exact call_range_2 (range_it I1 q1 q2 q3 q4 q)
def tFor (wi : TI) (g : TG) (tb : TS) : TS := fun D σ H => wi σ H fun J H1 => ∃ W : Nat → Nat → St → Hp → Prop, (∃ m, W 0 m σ H1) ∧ ∀ i m σ H, W i m σ H →
  (J.stop i H ∧ D.nx σ H) ∨ (J.go i H ∧ ∃ N : St → Hp → Prop, (∀ σ' H', N σ' H' → ∃ m', m' < m ∧ W (i + 1) m' σ' H') ∧ ∀ x H', J.yld i H x H' → g x σ H' fun σ2 H2 => tb { D with nx := N, ct := N, bk := D.nx } σ2 H2)
def pinsAt (fp : List Addr) (h : Heap) : List (Addr × Obj) := fp.filterMap fun b => (h.get? b).map fun o => (b, o)
theorem mem_pinsAt {fp : List Addr} {h : Heap} {b : Addr} {o : Obj} (hb : b ∈ fp) (e : h.get? b = some o) : (b, o) ∈ pinsAt fp h := List.mem_filterMap.mpr ⟨b, hb, by rw [e]; rfl⟩
theorem of_pinsAt {fp : List Addr} {h : Heap} {p : Addr × Obj} (hp : p ∈ pinsAt fp h) : p.1 ∈ fp ∧ h.get? p.1 = some p.2 := by
  obtain ⟨b, hb, e⟩ := List.mem_filterMap.mp hp
  cases q : h.get? b with
  | none => rw [q] at e; cases e
  | some o =>
    rw [q] at e
    have e' : (b, o) = p := Option.some.inj e
    subst e'
    exact ⟨hb, q⟩
theorem Inv.pinned {pins : List (Addr × Obj)} {σ : St} {H : Hp} {s : Shared} {fp : List Addr} (I : Inv X pins σ H s) (hf : ∀ b ∈ fp, FpOk X pins H b) (ho : ∀ b ∈ fp, ∃ o, s.heap.get? b = some o ∧ ∀ v, o.data ≠ .cell v) : Inv X (pins ++ pinsAt fp s.heap) σ H s :=
  I.pins_of fun p hp => (List.mem_append.mp hp).elim (fun z => I.pin p (List.mem_append_right _ z)) fun z => by
    obtain ⟨hb, e⟩ := of_pinsAt z
    obtain ⟨f0, f1, f2, _⟩ := hf p.1 hb
    obtain ⟨o, e', d⟩ := ho p.1 hb
    rw [e] at e'; cases e'
    exact ⟨e, f0, f1, f2, d⟩
theorem Inv.unpinned {pins pl : List (Addr × Obj)} {σ : St} {H : Hp} {s : Shared} (I : Inv X (pins ++ pl) σ H s) : Inv X pins σ H s := I.pins_of fun p hp => I.pin p (List.mem_append_right _ (List.mem_append_left _ hp))
theorem ps_for {iter : Expr} {body : List Stmt} {wi : TI} {g : TG} {tb : TS} {pos : Pos} (hp : PassesOwn (model X.prog X.w) X.A X.env X.xe) (hc : X.calm = true) (hi : PI X tg iter wi) (hg : PG X tg g) (hb : PSs X body tb)
    (hs : ∀ x, foldedSetIterable iter X.env x = pure x := by intro _; rfl) : PS X (.For tg iter body [] pos) (tFor wi g tb) := by
  refine ⟨?_⟩
  intro pins s σ H D I h
  refine wpAny_For (thn (hi pins s σ H _ I h) fun v s1 h1 => thn h1 fun itv s2 h2 => ?_) hs
  obtain ⟨it, fp, tn, J, H2, e, I2, T, st2, f2, W, ⟨m0, w0⟩, turn⟩ := h2
  subst e
  -- what stays true of the iterator's objects through the loop
  have stat : ∀ {H' : Hp}, (∀ b ∈ fp, H' b = none) → ∀ b ∈ fp, FpOk X pins H' b := fun hn b hb => ⟨hn b hb, (f2 b hb).2⟩
  refine codeAny_forLoop_any (fun n s' => ∃ i σ' H', Inv X pins σ' H' s' ∧ tn i s'.heap ∧ (∀ b ∈ fp, H' b = none) ∧ W i n σ' H') ?_ m0 ⟨0, σ, H2, I2, st2, fun b hb => (f2 b hb).1, w0⟩
  rintro n s3 ⟨i, σ3, H3, I3, st3, fr3, w3⟩
  rcases turn i n σ3 H3 w3 with ⟨stop, qn⟩ | ⟨go, N, hN, step⟩
  · refine wpAny_passesOwn hp (thn (T.done X rfl rfl rfl hc i pins s3 σ3 H3 X.xe I3 (stat fr3) st3 stop) fun r s4 ⟨hr, I4⟩ => ?_)
    subst hr
    exact wpAny_execs_nil ⟨σ3, H3, I4, qn⟩
  · refine wpAny_passesOwn hp (thn (T.item X rfl rfl rfl hc i pins s3 σ3 H3 X.xe I3 (stat fr3) st3 go) fun r s4 ⟨u, hr, h4⟩ => ?_)
    subst hr
    refine wpAny_passesOwn hp (thn h4 fun _ s5 ⟨x, H5, I5, r5, y5, st5, fr5⟩ => ?_)
    have I5' := I5.pinned (stat fr5) (T.obj _ _ st5)
    refine wpAny_passesOwn hp (thn (hg _ s5 σ3 H5 x u _ I5' r5 (step x H5 y5)) fun _ s6 ⟨σ6, H6, I6, q6⟩ => ?_)
    refine wpAny_passesOwn hp (thn (hb _ s6 σ6 H6 _ I6 q6) fun f s7 q7 => ?_)
    have again : ∀ {σ7 : St} {H7 : Hp}, Inv X (pins ++ pinsAt fp s5.heap) σ7 H7 s7 → N σ7 H7 → ∃ m, m < n ∧ ∃ i σ' H', Inv X pins σ' H' s7 ∧ tn i s7.heap ∧ (∀ b ∈ fp, H' b = none) ∧ W i m σ' H' := fun {σ7 H7} I7 n7 => by
      obtain ⟨m', hm, w7⟩ := hN σ7 H7 n7
      refine ⟨m', hm, i + 1, σ7, H7, I7.unpinned, T.keep _ _ _ st5 fun b hb o e => (I7.pin (b, o) (List.mem_append_right _ (List.mem_append_right _ (mem_pinsAt hb e)))).1, fun b hb => ?_, w7⟩
      obtain ⟨o, e, d⟩ := T.obj _ _ st5 b hb
      exact (I7.pin (b, o) (List.mem_append_right _ (List.mem_append_right _ (mem_pinsAt hb e)))).2.1
    cases f with
    | next => obtain ⟨σ7, H7, I7, n7⟩ := q7; exact again I7 n7
    | cont => obtain ⟨σ7, H7, I7, n7⟩ := q7; exact again I7 n7
    | brk => obtain ⟨σ7, H7, I7, q7⟩ := q7; exact ⟨σ7, H7, I7.unpinned, q7⟩
    | ret v => obtain ⟨x7, σ7, H7, I7, r7, q7⟩ := q7; exact ⟨x7, σ7, H7, I7.unpinned, r7, q7⟩
end
end L2
namespace L2
open PySem PySem.Spec PyProof.Rows
abbrev R2 := V → V → Hp → VK → Prop
def OpR (X : Cx) (f : Value → Value → Sem Value) (r : R2) : Prop :=
  ∀ (pins : List (Addr × Obj)) (s : Shared) (σ : St) (H : Hp) (x y : V) (v u : Value) (Q : VK), Inv X pins σ H s → RelV x v → RelV y u → r x y H Q →
    wpAny (model X.prog X.w) X.A (f v u) (EP X pins σ Q) X.xe s
def UnR (X : Cx) (f : Value → Sem Value) (r : V → Hp → VK → Prop) : Prop :=
  ∀ (pins : List (Addr × Obj)) (s : Shared) (σ : St) (H : Hp) (x : V) (v : Value) (Q : VK), Inv X pins σ H s → RelV x v → r x H Q →
    wpAny (model X.prog X.w) X.A (f v) (EP X pins σ Q) X.xe s
def CallR (X : Cx) (f : Value) (r : List V → Hp → VK → Prop) : Prop :=
  ∀ (pins : List (Addr × Obj)) (s : Shared) (σ : St) (H : Hp) (xs : List V) (us : List Value) (Q : VK), Inv X pins σ H s → Vals xs us → r xs H Q →
    wpAny (model X.prog X.w) X.A (call f us) (EP X pins σ Q) X.xe s
def TruR (X : Cx) (r : V → Hp → (Bool → Hp → Prop) → Prop) : Prop :=
  ∀ (pins : List (Addr × Obj)) (s : Shared) (σ : St) (H : Hp) (x : V) (v : Value) (Q : Bool → Hp → Prop), Inv X pins σ H s → RelV x v → r x H Q →
    wpAny (model X.prog X.w) X.A (truthy v) (TP X pins σ Q) X.xe s
def tOp (r : R2) (ta tb : TE) : TE := fun σ H Q => ta σ H fun x H1 => tb σ H1 fun y H2 => r x y H2 Q
def tUn (r : V → Hp → VK → Prop) (ta : TE) : TE := fun σ H Q => ta σ H fun x H1 => r x H1 Q
def rI (C : Int → Int → Prop) (g : Int → Int → V) : R2 := fun x y H Q => ∃ i j, x = .int i ∧ y = .int j ∧ C i j ∧ Q (g i j) H
def rI0 (g : Int → Int → V) : R2 := fun x y H Q => ∃ i j, x = .int i ∧ y = .int j ∧ Q (g i j) H
def rU (g : Int → V) : V → Hp → VK → Prop := fun x H Q => ∃ i, x = .int i ∧ Q (g i) H
section
variable {X : Cx} {a b c : Expr} {ta tb tc : TE} {pos : Pos}
theorem binT (ha : PE X a ta) (hb : PE X b tb) {pins : List (Addr × Obj)} {s : Shared} {σ : St} {H : Hp} {R : V → V → Hp → Prop} (I : Inv X pins σ H s)
    (h : ta σ H fun x H1 => tb σ H1 fun y H2 => R x y H2) {Q : Value → Shared → Prop} {f : Value → Value → Sem Value}
    (hf : ∀ v u s2 x y H2, Inv X pins σ H2 s2 → RelV x v → RelV y u → R x y H2 → wpAny (model X.prog X.w) X.A (f v u) Q X.xe s2) :
    wpAny (model X.prog X.w) X.A (eval a X.env) (fun v s₁ => wpAny (model X.prog X.w) X.A (eval b X.env) (fun u s₂ => wpAny (model X.prog X.w) X.A (f v u) Q X.xe s₂) X.xe s₁) X.xe s := by
  refine thn (ha pins s σ H _ I h) fun v s1 ⟨x, H1, I1, r1, q1⟩ => ?_
  refine thn (hb pins s1 σ H1 _ I1 q1) fun u s2 ⟨y, H2, I2, r2, q2⟩ => ?_
  exact hf v u s2 x y H2 I2 r1 r2 q2
theorem pe_op {op : Operator} {r : R2} (ho : OpR X (binaryOp op) r) (ha : PE X a ta) (hb : PE X b tb) : PE X (.BinOp a op b pos) (tOp r ta tb) := by
  refine ⟨?_⟩
  intro pins s σ H Q I h
  exact wpAny_BinOp (binT ha hb I h fun v u s2 x y H2 I2 rx ry q => ho pins s2 σ H2 x y v u Q I2 rx ry q)
theorem pe_un {op : UnaryOp} {r : V → Hp → VK → Prop} (ho : UnR X (unaryOp op) r) (ha : PE X a ta) : PE X (.UnaryOp op a pos) (tUn r ta) := by
  refine ⟨?_⟩
  intro pins s σ H Q I h
  exact UnaryOp_ (thn (ha pins s σ H _ I h) fun v s1 ⟨x, H1, I1, r1, q1⟩ => ho pins s1 σ H1 x v Q I1 r1 q1)
theorem opI {f : Value → Value → Sem Value} {C : Int → Int → Prop} {g : Int → Int → Int}
    (rule : ∀ (i j : Int) (t u : Tok) (s : Shared) (Q : Value → Shared → Prop) (E : Value → Shared → Prop), C i j → Q (.int (g i j) s.toks) { s with toks := s.toks + 1 } → wpAny (model X.prog X.w) X.A (f (.int i t) (.int j u)) Q E s) :
    OpR X f (rI C fun i j => .int (g i j)) := by
  intro pins s σ H x y v u Q I rx ry h
  obtain ⟨i, j, rfl, rfl, hc, q⟩ := h
  obtain ⟨t, rfl⟩ := rx
  obtain ⟨t', rfl⟩ := ry
  exact rule i j t t' s _ _ hc ⟨.int (g i j), H, I.tok _, ⟨_, rfl⟩, q⟩
theorem opI0 {f : Value → Value → Sem Value} {g : Int → Int → Int}
    (rule : ∀ (i j : Int) (t u : Tok) (s : Shared) (Q : Value → Shared → Prop) (E : Value → Shared → Prop), Q (.int (g i j) s.toks) { s with toks := s.toks + 1 } → wpAny (model X.prog X.w) X.A (f (.int i t) (.int j u)) Q E s) :
    OpR X f (rI0 fun i j => .int (g i j)) := by
  intro pins s σ H x y v u Q I rx ry h
  obtain ⟨i, j, rfl, rfl, q⟩ := h
  obtain ⟨t, rfl⟩ := rx
  obtain ⟨t', rfl⟩ := ry
  exact rule i j t t' s _ _ ⟨.int (g i j), H, I.tok _, ⟨_, rfl⟩, q⟩
theorem opB0 {f : Value → Value → Sem Value} {g : Int → Int → Bool}
    (rule : ∀ (i j : Int) (t u : Tok) (s : Shared) (Q : Value → Shared → Prop) (E : Value → Shared → Prop), Q (.bool (g i j)) s → wpAny (model X.prog X.w) X.A (f (.int i t) (.int j u)) Q E s) :
    OpR X f (rI0 fun i j => .bl (g i j)) := by
  intro pins s σ H x y v u Q I rx ry h
  obtain ⟨i, j, rfl, rfl, q⟩ := h
  obtain ⟨t, rfl⟩ := rx
  obtain ⟨t', rfl⟩ := ry
  exact rule i j t t' s _ _ ⟨.bl (g i j), H, I, rfl, q⟩
def CDiv (i j : Int) : Prop := 0 < j ∧ j < 1073741824
def CDivN (i j : Int) : Prop := j ≠ 0 ∧ j.natAbs < 1073741824
def CPow (i j : Int) : Prop := 0 ≤ j ∧ j ≤ 1000000 ∧ i.natAbs < 2 ^ 64
def CMul (i j : Int) : Prop := (-(2 ^ 64) < i ∧ i < 2 ^ 64) ∨ (-(2 ^ 64) < j ∧ j < 2 ^ 64)
theorem CMul.ok {i j : Int} (h : CMul i j) : IntMulOk i j := by
  rcases h with ⟨h1, h2⟩ | ⟨h1, h2⟩
  · exact .of_left (intBits_le_64 h1 h2)
  · exact .of_right (intBits_le_64 h1 h2)
theorem op_add : OpR X (binaryOp .Add) (rI0 fun i j => .int (i + j)) := opI0 fun _ _ _ _ _ _ _ q => add_int q
theorem op_sub : OpR X (binaryOp .Sub) (rI0 fun i j => .int (i - j)) := opI0 fun _ _ _ _ _ _ _ q => sub_int q
theorem op_mul : OpR X (binaryOp .Mult) (rI CMul fun i j => .int (i * j)) := opI fun _ _ _ _ _ _ _ hc q => mul_int q hc.ok
theorem op_fdiv : OpR X (binaryOp .FloorDiv) (rI CDiv fun i j => .int (i / j)) := opI fun i j _ _ _ _ _ hc q => by
  have h1 : (0 : Int) < j := hc.1
  have h2 : j < 1073741824 := hc.2
  exact floordiv_int (by omega) (by rw [Int.fdiv_eq_ediv_of_nonneg i (by omega)]; exact q) (.inl (PyProof.noPylong_small (by omega)))
theorem op_mod : OpR X (binaryOp .Mod) (rI (fun _ j => 0 < j) fun i j => .int (i % j)) := opI fun i j _ _ _ _ _ hc q => by
  have h1 : (0 : Int) < j := hc
  exact mod_int' (by omega) (by rw [Int.fmod_eq_emod_of_nonneg i (by omega)]; exact q)
theorem op_pow : OpR X (binaryOp .Pow) (rI CPow fun i j => .int (i ^ j.toNat)) := opI fun _ _ _ _ _ _ _ hc q => pow_int_small hc.1 hc.2.1 hc.2.2 q
theorem unI {f : Value → Sem Value} {g : Int → Int}
    (rule : ∀ (i : Int) (t : Tok) (s : Shared) (Q : Value → Shared → Prop) (E : Value → Shared → Prop), Q (.int (g i) s.toks) { s with toks := s.toks + 1 } → wpAny (model X.prog X.w) X.A (f (.int i t)) Q E s) :
    UnR X f (rU fun i => .int (g i)) := by
  intro pins s σ H x v Q I rx h
  obtain ⟨i, rfl, q⟩ := h
  obtain ⟨t, rfl⟩ := rx
  exact rule i t s _ _ ⟨.int (g i), H, I.tok _, ⟨_, rfl⟩, q⟩
theorem un_neg : UnR X (unaryOp .USub) (rU fun i => .int (-i)) := unI fun _ _ _ _ _ q => neg_int q
end
def scal : V → V → Bool
  | .non, .non => true | .non, .int _ => true | .int _, .non => true | .non, .bl _ => true | .bl _, .non => true | .non, .str _ => true | .str _, .non => true
  | .int _, .int _ => true | .bl _, .bl _ => true | .str _, .str _ => true | .byt _, .byt _ => true
  | .int _, .str _ => true | .str _, .int _ => true | .bl _, .str _ => true | .str _, .bl _ => true
  | _, _ => false
def rEq : R2 := fun x y H Q => scal x y = true ∧ Q (.bl (decide (x = y))) H
def rNe : R2 := fun x y H Q => scal x y = true ∧ Q (.bl (!decide (x = y))) H
section
variable {X : Cx} {a b c : Expr} {ta tb tc : TE} {pos : Pos}
theorem op_lt : OpR X (compareOp .Lt) (rI0 fun i j => .bl (decide (i < j))) := opB0 fun _ _ _ _ _ _ _ q => lt_int q
theorem op_gt : OpR X (compareOp .Gt) (rI0 fun i j => .bl (decide (j < i))) := opB0 fun _ _ _ _ _ _ _ q => gt_int q
theorem op_ge : OpR X (compareOp .GtE) (rI0 fun i j => .bl (decide (j ≤ i))) := opB0 fun _ _ _ _ _ _ _ q => ge_int q
def isObj : HO → Bool
  | .lst _ => true
  | .ins _ _ _ => true
  | _ => false
theorem OpR.or {f : Value → Value → Sem Value} {r r' : R2} (h : OpR X f r) (h' : OpR X f r') : OpR X f (fun x y H Q => r x y H Q ∨ r' x y H Q) := by
  intro pins s σ H x y v u Q I rx ry q
  rcases q with q | q
  · exact h pins s σ H x y v u Q I rx ry q
  · exact h' pins s σ H x y v u Q I rx ry q
theorem nomark (b : Expr) {op : CmpOp} (h : op ≠ .In := by decide) (h2 : op ≠ .NotIn := by decide) : behindInMarks op b = false := by
  have e1 : (op == CmpOp.In) = false := by cases op <;> first | rfl | exact absurd rfl h
  have e2 : (op == CmpOp.NotIn) = false := by cases op <;> first | rfl | exact absurd rfl h2
  cases b <;> simp [behindInMarks, e1, e2]
theorem pe_cmpR {op : CmpOp} {r : R2} (ho : OpR X (compareOp op) r) (ha : PE X a ta) (hb : PE X b tb) (hm : behindInMarks op b = false) : PE X (.Compare a [op] [b] pos) (tOp r ta tb) := by
  refine ⟨?_⟩
  intro pins s σ H Q I h
  exact wpAny_Compare1 (binT ha hb I h fun v u s2 x y H2 I2 rx ry q => ho pins s2 σ H2 x y v u Q I2 rx ry q) hm
def tTest (t : TE) : TT := fun σ H Q => t σ H fun x H' => ∃ k, x = .bl k ∧ Q k H'
theorem pt_cmpR {op : CmpOp} {r : R2} (ho : OpR X (compareOp op) r) (ha : PE X a ta) (hb : PE X b tb) (hm : behindInMarks op b = false) : PT X (.Compare a [op] [b] pos) (tTest (tOp r ta tb)) := by
  refine ⟨?_⟩
  intro pins s σ H Q I h
  refine wpAny_isTrue_Compare1 (thn (ha pins s σ H _ I h) fun v s1 ⟨x, H1, I1, r1, q1⟩ => thn (hb pins s1 σ H1 _ I1 q1) fun u s2 ⟨y, H2, I2, r2, q2⟩ =>
    thn (ho pins s2 σ H2 x y v u _ I2 r1 r2 q2) fun c s3 ⟨z, H3, I3, r3, k, e, q3⟩ => ?_) hm
  subst e
  cases r3
  exact wpAny_truthy_bool ⟨H3, I3, q3⟩
def tChain (r r' : R2) (ta tb tc : TE) : TE := fun σ H Q => ta σ H fun x H1 => tb σ H1 fun y H2 => r x y H2 fun z H3 => ∃ k, z = .bl k ∧
  (if k = true then tc σ H3 fun w' H4 => r' y w' H4 Q else Q (.bl false) H3)
def TruV (K : PySem.W.Frag) (x : V) (H : Hp) (k : Bool) : Prop :=
  match x with
  | .non => k = false
  | .bl b => k = b
  | .int i => k = (i != 0)
  | .str y => y.length ≤ sizeLine ∧ k = ((y.length : Int) != 0)
  | .byt y => y.size ≤ sizeLine ∧ k = ((y.size : Int) != 0)
  | .ref p => (∃ xs, SqL K H p xs ∧ k = !xs.isEmpty) ∨ (∃ xs, SqT K H p xs ∧ k = !xs.isEmpty) ∨ ∃ kvs, H p = some (.dK kvs) ∧ k = !kvs.isEmpty
  | _ => False
theorem isEmpty_kv {κ : Type} {kvs : List (κ × V)} {vs : List (κ × Value)} (r : KV kvs vs) : (!vs.isEmpty) = !kvs.isEmpty := by
  cases r <;> rfl
theorem isEmpty_of {xs : List V} {its : List Value} (r : Vals xs its) : (!its.toArray.isEmpty) = !xs.isEmpty := by
  cases r <;> simp
theorem line63 : (sizeLine : Nat) < 2 ^ 63 := by rw [sizeLine_eq]; decide
theorem tru_ok : TruR X (fun x H Q => ∃ k, TruV X.K x H k ∧ Q k H) := by
  intro pins s σ H x v Q I rx h
  obtain ⟨k, e, q⟩ := h
  have hl := line63
  have hs : sizeLine = 16777216 := sizeLine_eq
  cases x with
  | non =>
    cases rx
    have e' : k = false := e
    subst e'
    exact truthy_none ⟨H, I, q⟩
  | bl b =>
    cases rx
    have e' : k = b := e
    subst e'
    exact wpAny_truthy_bool ⟨H, I, q⟩
  | int i =>
    obtain ⟨t, rfl⟩ := rx
    have e' : k = (i != 0) := e
    subst e'
    exact PySem.P.truthy_int ⟨H, I, q⟩
  | str y =>
    obtain ⟨t, rfl⟩ := rx
    obtain ⟨hy, e'⟩ : y.length ≤ sizeLine ∧ k = ((y.length : Int) != 0) := e
    subst e'
    exact PySem.P.truthy_str (by omega) ⟨H, I.tok _, q⟩
  | byt y =>
    obtain ⟨t, rfl⟩ := rx
    obtain ⟨hy, e'⟩ : y.size ≤ sizeLine ∧ k = ((y.size : Int) != 0) := e
    subst e'
    exact PySem.W.truthy_bytes (by omega) ⟨H, I.tok _, q⟩
  | ref p =>
    cases rx
    have e' : (∃ xs, SqL X.K H p xs ∧ k = !xs.isEmpty) ∨ (∃ xs, SqT X.K H p xs ∧ k = !xs.isEmpty) ∨ ∃ kvs, H p = some (.dK kvs) ∧ k = !kvs.isEmpty := e
    rcases e' with ⟨xs, hx, e'⟩ | ⟨xs, hx, e'⟩ | ⟨kvs, hx, e'⟩
    · subst e'
      obtain ⟨its, r, pl, hz⟩ := I.list hx
      have hlen := r.length
      exact wpAny_truthy_list pl.isList (by simp only [List.size_toArray]; omega) ⟨H, I.tok _, by rw [isEmpty_of r]; exact q⟩
    · subst e'
      obtain ⟨its, r, pl, hz⟩ := I.tuple hx
      have hlen := r.length
      exact truthy_tuple pl (by simp only [List.size_toArray]; omega) ⟨H, I.tok _, by rw [isEmpty_of r]; exact q⟩
    · subst e'
      obtain ⟨hz, hS, vs, r, m⟩ : kvs.length ≤ sizeLine ∧ (p == sysModules) = false ∧ ∃ vs, KV kvs vs ∧ s.heap.DictOf (mixKind X.prog X.w) p vs := I.hok p _ hx
      have hlen : kvs.length = vs.length := Paired.length r
      exact wpAny_truthy_dict hS m (by omega) ⟨H, I.tok _, by rw [isEmpty_kv r]; exact q⟩
  | _ => exact (show False from e).elim
theorem pt_truth (ha : PE X a ta) (he : ∀ whole, isTrue a X.env whole = (do let v ← whole; standAt a.pos; holding [v] (truthy v))) :
    PT X a (fun σ H Q => ta σ H fun x H' => ∃ k, TruV X.K x H' k ∧ Q k H') := by
  refine ⟨?_⟩
  intro pins s σ H Q I h
  exact isTrue_plain (thn (ha pins s σ H _ I h) fun v s1 ⟨x, H1, I1, r1, q1⟩ => tru_ok pins s1 σ H1 x v Q I1 r1 q1) (he _)
theorem op_add_str : OpR X (binaryOp .Add) (fun x y H Q => ∃ i j, x = .str i ∧ y = .str j ∧ i.length + j.length ≤ sizeLine ∧ Q (.str (i ++ j)) H) := by
  intro pins s σ H x y v u Q I rx ry h
  obtain ⟨i, j, rfl, rfl, hz, q⟩ := h
  obtain ⟨t, rfl⟩ := rx
  obtain ⟨t', rfl⟩ := ry
  exact add_str (fun t' tk => ⟨.str (i ++ j), H, I.tok _, ⟨_, rfl⟩, q⟩) hz
def PlainIxT (b : Expr) : Prop := ∀ o i, subscripted b false o i = operate [o, i] (getItem o i)
theorem vals1 {x : V} {us : List Value} (r : Vals [x] us) : ∃ u, us = [u] ∧ RelV x u := by
  cases r with
  | cons r1 r2 => cases r2; exact ⟨_, rfl, r1⟩
theorem call_abs : CallR X (.builtin "abs") (fun xs H Q => ∃ i, xs = [.int i] ∧ Q (.int (if i < 0 then -i else i)) H) := by
  intro pins s σ H xs us Q I r h
  obtain ⟨i, rfl, q⟩ := h
  obtain ⟨u, rfl, t, rfl⟩ := vals1 r
  exact call_abs_int fun u tk => ⟨.int (if i < 0 then -i else i), H, I.tok _, ⟨_, rfl⟩, q⟩
def LenV (K : PySem.W.Frag) (x : V) (H : Hp) (n : Nat) : Prop :=
  match x with
  | .str y => y.length ≤ sizeLine ∧ n = y.length
  | .byt y => y.size ≤ sizeLine ∧ n = y.size
  | .ref p => (∃ xs, SqL K H p xs ∧ n = xs.length) ∨ ∃ xs, SqT K H p xs ∧ n = xs.length
  | _ => False
end
end L2
namespace L2
open PySem PySem.Spec PyProof.Rows
structure ObjM (h : Heap) (x dx C : Addr) (mA : Str → Option Value) : Prop where
  obj : h.get? x = some (PySem.W.instObj C dx)
  ns : h.Ns1 dx mA
  ne : dx ≠ x
theorem lookIn_ns {h : Heap} {dx : Addr} {mA : Str → Option Value} (n : h.Ns1 dx mA) : ∃ od, h.get? dx = some od ∧ ∀ name, PySem.W.lookIn name od = some (mA name) := by
  obtain ⟨o, es, ep, ho, hd, hk, _, hm⟩ := n
  refine ⟨o, ho, fun name => ?_⟩
  have e := hm name
  unfold nsFind findBy at e
  rw [← Array.find?_toList] at e
  unfold PySem.W.lookIn
  rw [hd]
  dsimp only
  split
  · rename_i y q
    rw [q] at e
    exact congrArg some e
  · rename_i q
    rw [q] at e
    have a : es.toList.any (·.refKey) = false := by
      rw [List.any_eq_false]
      intro y hy
      obtain ⟨z, t, hkey⟩ := hk y (Array.mem_toList_iff.mp hy)
      simp [DictEntry.refKey, hkey]
    have a' : ¬ es.toList.any (·.refKey) = true := by rw [a]; exact Bool.false_ne_true
    rw [if_neg a']
    exact congrArg some e
theorem ObjM.look {h : Heap} {x dx C : Addr} {mA : Str → Option Value} (I : ObjM h x dx C mA) : ∃ od, PySem.W.InstAt h x (PySem.W.instObj C dx) C (some od) ∧ ∀ name, PySem.W.lookIn name od = some (mA name) :=
  let ⟨od, ho, hl⟩ := lookIn_ns I.ns
  ⟨od, ⟨I.obj, rfl, rfl, ho⟩, hl⟩
section
variable {prog : Program} {w : World} {A : Around} {E : Value → Shared → Prop} {s : Shared} {K : PySem.W.Frag} {x dx C f : Addr} {mA : Str → Option Value} {name : Str} {v : Value}
end
def putF (f : Str) (v : V) : List (Str × V) → List (Str × V)
  | [] => [(f, v)]
  | (g, x) :: r => if g = f then (g, v) :: r else (g, x) :: putF f v r
theorem RelO.some_of {v : V} {o : Option Value} (r : RelO (some v) o) : ∃ u, o = some u ∧ RelV v u := by
  cases o with
  | none => exact (show False from r).elim
  | some u => exact ⟨u, rfl, r⟩
section
variable {P : Program} {w : World} {H H' : Hp} {h h' : Heap} {a C dx : Addr} {fs fs' : List (Str × V)}
end
structure Cls (K : PySem.W.Frag) (C : Addr) : Prop where
  pg : PySem.W.plainGet K C Str.empty = true
  hd : PySem.W.hasDictIn K C = true
  po : PySem.W.plainOver K C = true
  sa : PySem.W.findIn K (.ref C) "__setattr__" = some (some (.builtin "object.__setattr__"))
theorem Cls.get {K : PySem.W.Frag} {C : Addr} (c : Cls K C) (f : Str) : PySem.W.plainGet K C f = true := c.pg
def NoAttr (K : PySem.W.Frag) (C : Addr) (f : Str) : Prop := PySem.W.findIn K (.ref C) f = some none
structure Con (K : PySem.W.Frag) (C : Addr) (f : Str) (v : V) (u : Value) : Prop where
  at_ : PySem.W.findIn K (.ref C) f = some (some u)
  rel : RelV v u
  get : PySem.W.specialIn K u "__get__" = some none
  cp : PySem.W.copiedNames.contains f = false
structure Meth (K : PySem.W.Frag) (C : Addr) (m : Str) (f : Addr) : Prop where
  at_ : PySem.W.findIn K (.ref C) m = some (some (.ref f))
  fn : PySem.W.isFn K (.ref f) = true
  kp : PySem.W.keepIn K (.ref f) = true
section
variable {X : Cx} {pins : List (Addr × Obj)} {σ : St} {H : Hp} {s : Shared} {a C dx : Addr} {fs : List (Str × V)} {f : Str} {v : V} {A : Around} {E : Value → Shared → Prop}
end
def tFld (K : PySem.W.Frag) (ta : TE) (f : Str) : TE := fun σ H Q => ta σ H fun x H1 => ∃ a C dx fs v, x = .ref a ∧ H1 a = some (.ins C dx fs) ∧ Cls K C ∧ NoAttr K C f ∧ fs.lookup f = some v ∧ Q v H1
def tCon (K : PySem.W.Frag) (ta : TE) (f : Str) : TE := fun σ H Q => ta σ H fun x H1 => ∃ a C dx fs v u, x = .ref a ∧ H1 a = some (.ins C dx fs) ∧ Cls K C ∧ Con K C f v u ∧ fs.lookup f = none ∧ Q v H1
def sFld (K : PySem.W.Frag) (ta tv : TE) (f : Str) : TS := fun D σ H => tv σ H fun y H1 => ta σ H1 fun x H2 => ∃ a C dx fs, x = .ref a ∧ H2 a = some (.ins C dx fs) ∧ Cls K C ∧ NoAttr K C f ∧ fs.length < 1000 ∧
  D.nx σ (upd H2 a (.ins C dx (putF f y fs)))
def InOp (X : Cx) (op : Operator) (rd : V → V → Hp → VK → Prop) : Prop :=
  ∀ (pins : List (Addr × Obj)) (s : Shared) (σ : St) (H : Hp) (x y : V) (u v : Value) (Q : VK), Inv X pins σ H s → RelV x u → RelV y v → rd x y H Q → wpAny (model X.prog X.w) X.A (inplaceOp op u v) (EP X pins σ Q) X.xe s
def sFldAug (K : PySem.W.Frag) (ta tv : TE) (rd : V → V → Hp → VK → Prop) (f : Str) : TS := fun D σ H => ta σ H fun x H1 => ∃ a C dx fs v, x = .ref a ∧ H1 a = some (.ins C dx fs) ∧ Cls K C ∧ NoAttr K C f ∧ fs.lookup f = some v ∧
  tv σ H1 fun y H2 => rd v y H2 fun z H3 => ∃ dx' fs', H3 a = some (.ins C dx' fs') ∧ fs'.length < 1000 ∧ D.nx σ (upd H3 a (.ins C dx' (putF f z fs')))
section
variable {X : Cx} {o e value : Expr} {f : Str} {pos pos' tpos : Pos} {ta tv : TE}
def rAdd : V → V → Hp → VK → Prop := fun x y H Q => ∃ i j, x = .int i ∧ y = .int j ∧ Q (.int (i + j)) H
def rSub : V → V → Hp → VK → Prop := fun x y H Q => ∃ i j, x = .int i ∧ y = .int j ∧ Q (.int (i - j)) H
end
section
variable {X : Cx} {pins : List (Addr × Obj)} {σ : St} {H : Hp} {s : Shared} {A : Around} {E : Value → Shared → Prop} {Q : Value → Shared → Prop} {c : Value} {b : Bool}
inductive TyOf (K : PySem.W.Frag) (H : Hp) : V → Value → Prop where
  | non : TyOf K H .non (.type "NoneType")
  | bl (x : Bool) : TyOf K H (.bl x) (.type "bool")
  | int (i : Int) : TyOf K H (.int i) (.type "int")
  | str (x : Str) : TyOf K H (.str x) (.type "str")
  | flt (x : UInt64) : TyOf K H (.flt x) (.type "float")
  | lst {a : Addr} {xs : List V} (e : H a = some (.lst xs)) : TyOf K H (.ref a) (.type "list")
  | frz {a : Addr} {o : Obj} {xs : List V} (e : H a = some (.frz o (.lst xs))) : TyOf K H (.ref a) (.type "list")
  | tup {a : Addr} {xs : List V} (e : H a = some (.tup xs)) : TyOf K H (.ref a) (.type "tuple")
  | dK {a : Addr} {kvs : List (Key × V)} (e : H a = some (.dK kvs)) : TyOf K H (.ref a) (.type "dict")
  | dT {a : Addr} {kvs : List (List Key × V)} (e : H a = some (.dT kvs)) : TyOf K H (.ref a) (.type "dict")
  | ins {a C dx : Addr} {fs : List (Str × V)} (e : H a = some (.ins C dx fs)) (cl : Cls K C) (ha : PySem.W.findIn K (.ref C) "__class__" = some (some (.builtin "object.__class__")))
      (hn : PySem.W.specialIn K (.builtin "object.__class__") "__get__" = some (some (.builtin "getset_descriptor.__get__"))) (htk : PySem.W.takesIn K (.builtin "object.__class__") = some true)
      (hm : PySem.W.mroIn K C (.type "object") = some true) : TyOf K H (.ref a) (.ref C)
end
end L2
namespace L2
open PySem PySem.Spec PyProof.Rows
structure Room (k : Nat) (A : Around) : Prop where
  hd : A.handled = none
  dp : A.depth + 3 * k + 5 < recursionLimit
  un : A.units + 16 * k + 200 < cLine
theorem Room.mono {j k : Nat} {A : Around} (r : Room k A) (h : j ≤ k) : Room j A := ⟨r.hd, by have := r.dp; omega, by have := r.un; omega⟩
theorem Room.deeper {k : Nat} {A : Around} (r : Room (k + 1) A) (env : Env) : Room k (A.deeper env) :=
  ⟨r.hd, by have := r.dp; show A.depth + 1 + 3 * k + 5 < _; omega, by have := r.un; show A.units + 3 + 16 * k + 200 < _; omega⟩
theorem Room.in1 {k : Nat} {A : Around} (r : Room (k + 1) A) : Room k A.in1 :=
  ⟨r.hd, by have := r.dp; show A.depth + 3 * k + 5 < _; omega, by have := r.un; show A.units + 1 + 16 * k + 200 < _; omega⟩
theorem Room.depth {k : Nat} {A : Around} (r : Room k A) : A.depth < recursionLimit := by have := r.dp; omega
theorem Room.units {k : Nat} {A : Around} (r : Room k A) : A.units + 64 < cLine := by have := r.un; omega
def tNil : TA := fun _ H Q => Q [] H
def tCons (ta : TE) (tr : TA) : TA := fun σ H Q => ta σ H fun x H1 => tr σ H1 fun xs H2 => Q (x :: xs) H2
section
variable {X : Cx} {e : Expr} {es : List Expr} {te : TE} {t : TA} {pos : Pos}
theorem pa_nil : PA X [] tNil := .mk <| fun _ _ _ _ H Q I h => Calls.spliced_nil ⟨[], H, I, .nil, h⟩
theorem pa_cons (ha : PE X e te) (hr : PA X es t) (hs : starEach (e :: es) X.env = (false, eval e X.env) :: starEach es X.env := by rfl) : PA X (e :: es) (tCons te t) := by
  refine ⟨?_⟩
  intro pos pins s σ H Q I h
  rw [hs]
  show wpAny _ _ (spliced ((false, eval e X.env) :: backTo pos (starEach es X.env))) _ _ s
  refine Calls.spliced_cons (thn (ha pins s σ H _ I h) fun u s1 ⟨x, H1, I1, r1, q1⟩ => ?_)
  exact thn (hr pos pins s1 σ H1 _ I1 q1) fun us s2 ⟨xs, H2, I2, r2, q2⟩ => ⟨x :: xs, H2, I2, .cons r1 r2, q2⟩
def tTup (t : TA) : TE := fun σ H Q => t σ H fun xs H1 => xs.length ≤ sizeLine ∧ ∀ p, H1 p = none → Q (.ref p) (upd H1 p (.tup xs))
def tLst (t : TA) : TE := fun σ H Q => t σ H fun xs H1 => xs.length ≤ sizeLine ∧ ∀ p, H1 p = none → Q (.ref p) (upd H1 p (.lst xs))
theorem pe_tup {x1} (h : PA X es t) : PE X (.Tuple es x1 pos) (tTup t) := by
  refine ⟨?_⟩
  intro pins s σ H Q I hq
  refine wpAny_Tuple_spliced (thn (h pos pins s σ H _ I hq) fun us s1 ⟨xs, H1, I1, r, z, q⟩ => ⟨by rw [← r.length]; exact z, ?_⟩)
  have hf : H1 s1.heap.objs.size = none := I1.hok.fresh (Nat.le_refl _)
  refine ⟨.ref s1.heap.objs.size, upd H1 s1.heap.objs.size (.tup xs), I1.laid (t' := s1.toks) (fun b u e => Heap.get?_push_of_some _ e) (Nat.le_refl _) ?_, rfl, q _ hf⟩
  exact ⟨z, us, r, ⟨_, Heap.get?_push_size _ rfl, rfl, _, rfl⟩⟩
theorem pe_lst (h : PA X es t) : PE X (.List es pos) (tLst t) := by
  refine ⟨?_⟩
  intro pins s σ H Q I hq
  refine wpAny_List_spliced (thn (h pos pins s σ H _ I hq) fun us s1 ⟨xs, H1, I1, r, z, q⟩ => ⟨by rw [← r.length]; exact z, ?_⟩)
  have hf : H1 s1.heap.objs.size = none := I1.hok.fresh (Nat.le_refl _)
  refine ⟨.ref s1.heap.objs.size, upd H1 s1.heap.objs.size (.lst xs), I1.laid (t' := s1.toks) (fun b u e => Heap.get?_push_of_some _ e) (Nat.le_refl _) ?_, rfl, q _ hf⟩
  exact ⟨z, us, 0, r, Heap.get?_push_size _ rfl⟩
end
abbrev Sp := List V → Hp → VK → XK → Prop
abbrev CXT := List Env → Hp → Shared → XK → Value → Shared → Prop
structure Env0 (P : Program) (w : World) (K : PySem.W.Frag) (mg : Str → Option Value) (base : Heap) (A : Around) (outer : List Env) (s : Shared) (H : Hp) : Prop where
  frames : A.frames = some outer
  mod : Mod K mg base
  bs : ∀ b o, base.get? b = some o → s.heap.get? b = some o ∧ H b = none
  bsz : base.objs.size ≤ s.heap.objs.size
  funs : s.heap.FunFrames base outer
  frf : ∀ b ∈ frs outer, H b = none
  hok : HOk P w H s.heap
  bare : AllBare s.gens
def CE (outer : List Env) (P : Program) (w : World) (H : Hp) (s : Shared) (Q : VK) (u : Value) (s' : Shared) : Prop :=
  ∃ v H', s'.os = s.os ∧ AllBare s'.gens ∧ Un (frs outer) [] H H' s.heap s'.heap ∧ HOk P w H' s'.heap ∧ RelV v u ∧ Q v H'
def CR (CX : CXT) (outer : List Env) (P : Program) (w : World) (H : Hp) (s : Shared) (Q : VK) (E : XK) (r : Result) (s' : Shared) : Prop :=
  match r with
  | .ok (.ret u) => CE outer P w H s Q u s'
  | .ok _ => False
  | .error e => CX outer H s E e s'
structure FnOk (P : Program) (w : World) (K : PySem.W.Frag) (mg : Str → Option Value) (base : Heap) (CX : CXT) (k : Nat) (f : Addr) (fd : FuncData) (ps : List Str) (sp : Sp) : Prop where
  len : ∀ vs H Q E, sp vs H Q E → vs.length = ps.length
  run : ∀ (A : Around) (outer : List Env) (s : Shared) (H : Hp) (args : Args) (us : List Value) (vs : List V) (Q : VK) (E : XK), Room k A → Env0 P w K mg base A outer s H → BindsTo s fd args (ps.zip us) → Vals vs us → sp vs H Q E →
    codeAny (model P w) A (.call (.ref f) args) (CR CX outer P w H s Q E) s
theorem FnOk.mono {P : Program} {w : World} {K : PySem.W.Frag} {mg : Str → Option Value} {base : Heap} {CX : CXT} {j k : Nat} {f : Addr} {fd : FuncData} {ps : List Str} {sp : Sp} (F : FnOk P w K mg base CX j f fd ps sp) (h : j ≤ k) :
    FnOk P w K mg base CX k f fd ps sp := ⟨F.len, fun A outer s H args us vs Q E hr => F.run A outer s H args us vs Q E (hr.mono h)⟩
theorem FnOk.imp {P : Program} {w : World} {K : PySem.W.Frag} {mg : Str → Option Value} {base : Heap} {CX : CXT} {k : Nat} {f : Addr} {fd : FuncData} {ps : List Str} {sp sp' : Sp} (F : FnOk P w K mg base CX k f fd ps sp)
    (h : ∀ vs H Q E, sp' vs H Q E → sp vs H Q E) : FnOk P w K mg base CX k f fd ps sp' :=
  ⟨fun vs H Q E q => F.len vs H Q E (h _ _ _ _ q), fun A outer s H args us vs Q E hr he hb hv hs => F.run A outer s H args us vs Q E hr he hb hv (h _ _ _ _ hs)⟩
theorem Env0.in1 {P : Program} {w : World} {K : PySem.W.Frag} {mg : Str → Option Value} {base : Heap} {A : Around} {outer : List Env} {s : Shared} {H : Hp} (e : Env0 P w K mg base A outer s H) :
    Env0 P w K mg base A.in1 outer s H := ⟨e.frames, e.mod, e.bs, e.bsz, e.funs, e.frf, e.hok, e.bare⟩
section
variable {X : Cx} {pins : List (Addr × Obj)} {σ : St} {H : Hp} {s s' : Shared}
theorem Inv.env0 (I : Inv X pins σ H s) : Env0 X.prog X.w X.K X.mg X.base X.A X.stack s H :=
  ⟨I.ok.frames, I.ok.mod, I.bs, Nat.le_trans I.ok.bsz I.sz, I.stack, I.stkFree, I.hok, I.bare⟩
theorem Inv.after {Q : VK} {u : Value} (I : Inv X pins σ H s) (h : CE X.stack X.prog X.w H s Q u s') : EP X pins σ Q u s' := by
  obtain ⟨v, H', os, bare, un, hok, r, q⟩ := h
  obtain ⟨hh, g, d, t, os'⟩ := s'
  obtain rfl : os' = s.os := os
  exact ⟨v, H', I.call (h' := hh) (g' := g) (d' := d) (t' := t) (ch := []) un hok bare (fun b z => absurd z (by simp)), r, q⟩
end
def tCall (sp : Sp) (dvs : List V) (E : XK) (t : TA) : TE := fun σ H Q => t σ H fun vs H1 => sp (vs ++ dvs) H1 Q E
def tMeth (C : Addr) (m : Str) (sp : Sp) (dvs : List V) (E : XK) (ta : TE) (t : TA) : TE := fun σ H Q => ta σ H fun x H1 => ∃ a dx fs, x = .ref a ∧ H1 a = some (.ins C dx fs) ∧ fs.lookup m = none ∧
  t σ H1 fun vs H2 => sp (x :: (vs ++ dvs)) H2 Q E
def tMake (C : Addr) (sp : Sp) (dvs : List V) (E : XK) (t : TA) : TE := fun σ H Q => t σ H fun vs H1 => ∀ x dx, H1 x = none → H1 dx = none → dx ≠ x →
  sp (.ref x :: (vs ++ dvs)) (upd (upd H1 dx (.own x)) x (.ins C dx [])) (fun v H2 => v = .non ∧ Q (.ref x) H2) E
def Binds (K : PySem.W.Frag) (fd : FuncData) (ps : List Str) (ds : List Value) : Prop :=
  ∀ (s : Shared) (us : List Value), K.In s.heap → (us ++ ds).length = ps.length → BindsTo s fd ⟨us, []⟩ (ps.zip (us ++ ds))
theorem Binds.all {K : PySem.W.Frag} {fd : FuncData} {ps : List Str} (h : ∀ us : List Value, us.length = ps.length → bindArgs fd ⟨us, []⟩ = pure (ps.zip us)) : Binds K fd ps [] := fun s us _ hl => by
  rw [List.append_nil] at hl ⊢
  exact .of_eq (h us hl)
def Passes (CX : CXT) (X : Cx) (E : XK) : Prop := ∀ (pins : List (Addr × Obj)) (σ : St) (H : Hp) (s : Shared) (e : Value) (s' : Shared), Inv X pins σ H s → CX X.stack H s E e s' → X.xe e s'
section
variable {X : Cx} {CX : CXT} {k : Nat} {f C : Addr} {fd : FuncData} {ps : List Str} {sp : Sp} {dvs : List V} {ds : List Value} {E : XK} {x m : Str} {p pos apos : Pos} {e o : Expr} {es : List Expr} {ta : TE} {t : TA}
theorem run_fn {pins : List (Addr × Obj)} {σ : St} {H : Hp} {s : Shared} {Q : VK} {us : List Value} {vs : List V} (F : FnOk X.prog X.w X.K X.mg X.base CX k f fd ps sp) (hr : Room k X.A) (hb : Binds X.K fd ps ds) (hd : Vals dvs ds) (hx : Passes CX X E)
    (I : Inv X pins σ H s) (r : Vals vs us) (h : sp (vs ++ dvs) H Q E) : wpAny (model X.prog X.w) X.A (call (.ref f) us) (EP X pins σ Q) X.xe s := by
  have r2 : Vals (vs ++ dvs) (us ++ ds) := r.append hd
  have hl : (us ++ ds).length = ps.length := by rw [← r2.length]; exact F.len _ _ _ _ h
  refine wpAny_call (codeAny_mono (F.run X.A X.stack s H ⟨us, []⟩ (us ++ ds) (vs ++ dvs) Q E hr I.env0 (hb s us I.kIn hl) r2 h) fun r s' hq => ?_)
  cases r with
  | error e => exact hx pins σ H s e s' I hq
  | ok fl =>
    cases fl with
    | ret u => exact I.after hq
    | next => exact False.elim hq
    | brk => exact False.elim hq
    | cont => exact False.elim hq
theorem pe_call (F : FnOk X.prog X.w X.K X.mg X.base CX k f fd ps sp) (hr : Room k X.A) (hg : Gl X x) (hm : X.mg x = some (.ref f)) (hk : PySem.W.keepIn X.K (.ref f) = true) (hb : Binds X.K fd ps ds) (hd : Vals dvs ds) (hx : Passes CX X E)
    (ha : PA X (e :: es) t) (hdb : (x == ("__debug__" : Str)) = false := by decide) (he : starEach (e :: es) X.env = (false, eval e X.env) :: starEach es X.env := by rfl) (hpl : (backTo pos (starEach es X.env)).any (·.1) = false := by rfl) :
    PE X (.Call (.Name x p) (e :: es) [] pos) (tCall sp dvs E t) := by
  refine ⟨?_⟩
  intro pins s σ H Q I h
  refine wpAny_Call_Name_kw (ld_glob I hg hm ?_ hdb)
  refine PySem.W.callWith_K (h₀ := X.base) I.ok.mod.kin hk (thn (ha pos pins s σ H _ I h) fun us s1 ⟨vs, H1, I1, r, q⟩ => ⟨I1.kIn, ?_⟩) he hpl
  exact run_fn F hr hb hd hx I1 r q
structure Mk (K : PySem.W.Frag) (C f : Addr) : Prop where
  makes : PySem.W.makesIn K C = true
  init : PySem.W.findIn K (.ref C) "__init__" = some (some (.ref f))
  fn : PySem.W.isFn K (.ref f) = true
  kp : PySem.W.keepIn K (.ref C) = true
end
def PK (X : Cx) (kws : List Keyword) (t : TA) : Prop :=
  ∀ (pos : Pos) (pins : List (Addr × Obj)) (s : Shared) (σ : St) (H : Hp) (Q : List V → Hp → Prop), Inv X pins σ H s → t σ H Q → wpAny (model X.prog X.w) X.A (evalAll ((backToKw pos (keywordEach kws X.env)).map (·.2))) (AP X pins σ Q) X.xe s
section
variable {X : Cx} {CX : CXT} {k : Nat} {f C : Addr} {fd : FuncData} {ps ks : List Str} {sp : Sp} {E : XK} {x m : Str} {p pos apos kpos : Pos} {e o : Expr} {es : List Expr} {kws : List Keyword} {te ta : TE} {t tk : TA} {nm : Option Str}
structure KBinds (K : PySem.W.Frag) (fd : FuncData) (ps ks : List Str) (g : List Value → List Value → List Value) (gV : List V → List V → List V) : Prop where
  to : ∀ (s : Shared) (us ws : List Value), K.In s.heap → (g us ws).length = ps.length → BindsTo s fd ⟨us, ks.zip ws⟩ (ps.zip (g us ws))
  rel : ∀ {vs : List V} {us : List Value} {zs : List V} {ws : List Value}, Vals vs us → Vals zs ws → Vals (gV vs zs) (g us ws)
def tCallK (sp : Sp) (gV : List V → List V → List V) (E : XK) (t tk : TA) : TE := fun σ H Q => t σ H fun vs H1 => tk σ H1 fun zs H2 => sp (gV vs zs) H2 Q E
variable {g : List Value → List Value → List Value} {gV : List V → List V → List V}
end
structure FnScope (N P : List Str) (sc : Scope) : Prop where
  kind : sc.kind = .function
  co : sc.isCoroutine = false
  gen : sc.isGenerator = false
  nd : N.Nodup
  pre : N.take P.length = P
  par : ∀ x ∈ P, sc.names.lookup x = some .local ∨ sc.names.lookup x = some .cell
  nofree : ∀ y ∈ sc.names, y.2 ≠ .free
theorem bindL_out {kindOf : Str → Option NameKind} {x : Str} : ∀ {binds : List (Str × Value)} {m : Str → Option Value}, (∀ v, (x, v) ∉ binds) → bindL kindOf binds m x = m x
  | [], _, _ => rfl
  | (n, v) :: r, m, h => by
    unfold bindL
    rw [bindL_out fun w hw => h w (List.mem_cons_of_mem _ hw)]
    split
    · have : x ≠ n := by rintro rfl; exact h v List.mem_cons_self
      simp [this]
    · rfl
theorem bindC_out {kindOf : Str → Option NameKind} {x : Str} : ∀ {binds : List (Str × Value)} {m : Str → Option Value}, (∀ v, (x, v) ∉ binds) → bindC kindOf binds m x = m x
  | [], _, _ => rfl
  | (n, v) :: r, m, h => by
    unfold bindC
    rw [bindC_out fun w hw => h w (List.mem_cons_of_mem _ hw)]
    split
    · rfl
    · have : x ≠ n := by rintro rfl; exact h v List.mem_cons_self
      simp [this]
theorem bindL_get {kindOf : Str → Option NameKind} {x : Str} {v : Value} : ∀ {P : List Str} {vs : List Value} {i : Nat} {m : Str → Option Value}, P.Nodup → P[i]? = some x → vs[i]? = some v → kindOf x = some .local →
    bindL kindOf (P.zip vs) m x = some v
  | [], _, _, _, _, h, _, _ => by simp at h
  | _ :: _, [], _, _, _, _, h, _ => by simp at h
  | p :: P, w :: vs, 0, m, nd, h1, h2, hk => by
    simp at h1 h2; subst h1; subst h2
    show bindL kindOf ((p, w) :: P.zip vs) m p = _
    unfold bindL
    rw [bindL_out fun v hv => (List.nodup_cons.mp nd).1 (List.of_mem_zip hv).1, if_pos hk]
    simp
  | p :: P, w :: vs, i + 1, m, nd, h1, h2, hk => by
    show bindL kindOf ((p, w) :: P.zip vs) m x = _
    unfold bindL
    exact bindL_get (i := i) (List.nodup_cons.mp nd).2 (by simpa using h1) (by simpa using h2) hk
theorem bindC_get {kindOf : Str → Option NameKind} {x : Str} {v : Value} : ∀ {P : List Str} {vs : List Value} {i : Nat} {m : Str → Option Value}, P.Nodup → P[i]? = some x → vs[i]? = some v → kindOf x ≠ some .local →
    bindC kindOf (P.zip vs) m x = some v
  | [], _, _, _, _, h, _, _ => by simp at h
  | _ :: _, [], _, _, _, _, h, _ => by simp at h
  | p :: P, w :: vs, 0, m, nd, h1, h2, hk => by
    simp at h1 h2; subst h1; subst h2
    show bindC kindOf ((p, w) :: P.zip vs) m p = _
    unfold bindC
    rw [bindC_out fun v hv => (List.nodup_cons.mp nd).1 (List.of_mem_zip hv).1, if_neg hk]
    simp
  | p :: P, w :: vs, i + 1, m, nd, h1, h2, hk => by
    show bindC kindOf ((p, w) :: P.zip vs) m x = _
    unfold bindC
    exact bindC_get (i := i) (List.nodup_cons.mp nd).2 (by simpa using h1) (by simpa using h2) hk
def start (N : List Str) (vs : List V) : St := vs.map some ++ List.replicate (N.length - vs.length) none
def cxOf (CX : CXT) (P : Program) (w : World) (K : PySem.W.Frag) (mg : Str → Option Value) (base : Heap) (N : List Str) (qual : Str) (scope : Scope) (f : Addr) (cd : Value) (A : Around) (outer : List Env) (s : Shared) (H : Hp) (E : XK) : Cx where
  prog := P
  w := w
  K := K
  mg := mg
  base := base
  A := A.deeper (envOfC qual scope s.heap.objs.size f cd)
  N := N
  s_0 := s
  H_0 := H
  env := envOfC qual scope s.heap.objs.size f cd
  outer := outer
  stack := envOfC qual scope s.heap.objs.size f cd :: outer
  ex := []
  calm := true
  fn := fun _ => true
  pn := []
  xe := fun e s' => wpAny (model P w) (A.deeper (envOfC qual scope s.heap.objs.size f cd)) (leaving (envOfC qual scope s.heap.objs.size f cd) e) (fun _ s'' => CX outer H s E e s'') (fun e' s'' => CX outer H s E e' s'') s'
theorem cell_has {sc : Scope} {n : Nat} {x : Str} (h : sc.names.lookup x = some .cell) : ∃ c, (cellsFrom n sc.names []).lookup x = some c := by
  have q := PySem.W.cellsFrom_some sc.names n [] (.inl h)
  exact Option.isSome_iff_exists.mp q
theorem inv_start {CX : CXT} {P : Program} {w : World} {K : PySem.W.Frag} {mg : Str → Option Value} {base : Heap} {N ps : List Str} {qual : Str} {scope : Scope} {f : Addr} {cd : Value} {A : Around} {outer : List Env} {s s1 : Shared} {H : Hp} {E : XK} {us : List Value} {vs : List V}
    (S : FnScope N ps scope) (hd : A.handled = none) (e0 : Env0 P w K mg base A outer s H) (hl : vs.length = ps.length) (r : Vals vs us)
    (x : InCallC s s.heap.objs.size (bindL (envOfC qual scope s.heap.objs.size f cd).kindOf (ps.zip us) fun _ => none) (cellsFrom (s.heap.objs.size + 1) scope.names []) (bindC (envOfC qual scope s.heap.objs.size f cd).kindOf (ps.zip us) fun _ => none) s1) :
    Inv (cxOf CX P w K mg base N qual scope f cd A outer s H E) [] (start N vs) H s1 := by
  have hpl : ps.length ≤ N.length := by have := congrArg List.length S.pre; rw [List.length_take] at this; omega
  obtain ⟨h1, tk, rfl, hk⟩ := x.done
  have noA : ∀ b : Addr, b ∉ (cxOf CX P w K mg base N qual scope f cd A outer s H E).ex := fun b z => absurd (show b ∈ ([] : List Addr) from z) (by simp)
  refine ⟨⟨e0.mod, S.kind, rfl, rfl, Nat.le_refl _, fun y z c h1 h2 => ?_, fun y hy => ?_, fun y c _ h => ?_, fun _ => hd, Around.frames_deeper e0.frames, .inr ⟨rfl, rfl⟩, fun b z => absurd z (noA b), e0.bs, e0.bsz, fun b _ _ => noA b, fun b z => absurd z (noA b), e0.funs, e0.frf⟩,
    rfl, e0.bare, Un.kept hk, ⟨_, x.toInCall.ns, fun i y v h1 h2 h3 => ?_⟩, fun y c h => ⟨_, x.cell y c h⟩, e0.hok.fresh (Nat.le_refl _), fun y c h => ?_, fun p hp => absurd (show p ∈ ([] : List (Addr × Obj)) from hp) (by simp), e0.hok.kept hk, ?_⟩
  · exact name_of_addr x.apart (PySem.mem_of_lookup h1) (PySem.mem_of_lookup h2)
  · have hy : scope.names.lookup y = some .cell ∨ scope.names.lookup y = some .free := hy
    rcases hy with hy | hy
    · exact cell_has hy
    · exact absurd rfl (S.nofree _ (PySem.mem_of_lookup hy))
  · exact Nat.le_of_lt (x.above y c (PySem.mem_of_lookup h))
  · have hi : i < vs.length := by
      unfold start at h2
      by_cases hi : i < vs.length
      · exact hi
      · rw [List.getElem?_append_right (by simpa using hi)] at h2
        rw [List.getElem?_replicate] at h2
        split at h2 <;> cases h2
    have ha : vs[i]? = some v := by
      unfold start at h2
      rw [List.getElem?_append_left (by simpa using hi), List.getElem?_map] at h2
      cases e : vs[i]? with
      | none => rw [e] at h2; cases h2
      | some a => rw [e] at h2; cases h2; rfl
    obtain ⟨u, hu, rv⟩ := r.get ha
    have hp : ps[i]? = some y := by
      rw [← S.pre, List.getElem?_take_of_lt (by omega)]; exact h1
    have ndP : ps.Nodup := by rw [← S.pre]; exact S.nd.sublist (List.take_sublist _ _)
    refine ⟨u, rv, ?_⟩
    rcases S.par y (List.mem_of_getElem? hp) with k | k
    · exact .inl ⟨k, bindL_get ndP hp hu k⟩
    · obtain ⟨c, e⟩ := cell_has (n := s.heap.objs.size + 1) k
      refine .inr ⟨.inl k, c, e, ?_⟩
      have q := x.cell y c e
      rw [bindC_get ndP hp hu (by show scope.names.lookup y ≠ _; rw [k]; decide)] at q
      exact q
  · exact e0.hok.fresh (Nat.le_of_lt (x.above y c (PySem.mem_of_lookup h)))
  · unfold start
    show _ = N.length
    rw [List.length_append, List.length_map, List.length_replicate]
    omega
theorem fn_of {CX : CXT} {P : Program} {w : World} {K : PySem.W.Frag} {mg : Str → Option Value} {base : Heap} {k : Nat} {f : Addr} {name qual : Str} {params : Arguments} {body : List Stmt} {scope : Scope} {dV kV doc pm cdv ct oc : Value} {an od : Option Addr}
    {osl : Array (Option Value)} {N ps : List Str} {sp : Sp} (lk : K.lookup f = some ⟨oc, od, .func (PySem.W.fnOf name qual params body scope dV kV doc pm an cdv ct), osl⟩) (hcd : PySem.W.codeIn K cdv qual = true) (S : FnScope N ps scope)
    (len : ∀ vs H Q E, sp vs H Q E → vs.length = ps.length)
    (hbody : ∀ (A : Around) (outer : List Env) (s : Shared) (H : Hp) (vs : List V) (Q : VK) (E : XK), Room k (A.deeper (envOfC qual scope s.heap.objs.size f cdv)) → sp vs H Q E →
      ∃ t, PSs (cxOf CX P w K mg base N qual scope f cdv A outer s H E) body t ∧ t { nx := fun _ H' => Q .non H', rt := Q } (start N vs) H) :
    FnOk P w K mg base CX (k + 1) f (PySem.W.fnOf name qual params body scope dV kV doc pm an cdv ct) ps sp := by
  refine ⟨len, fun A outer s H args us vs Q E hr e0 hb r hsp => ?_⟩
  have hl := len _ _ _ _ hsp
  have KX : K.In s.heap := e0.mod.kin.keeps fun b o e => (e0.bs b o e).1
  have lim : s.heap.NoLimit := e0.mod.nolimit.keeps fun b o e => (e0.bs b o e).1
  have hkind : ∀ y ∈ ps.zip us, scope.names.lookup y.1 = some .local ∨ (scope.names.lookup y.1 = some .cell ∧ ((cellsFrom (s.heap.objs.size + 1) scope.names []).lookup y.1).isSome = true) := fun ⟨n, v⟩ hy => by
    rcases S.par n (List.of_mem_zip hy).1 with q | q
    · exact .inl q
    · exact .inr ⟨q, PySem.W.cellsFrom_some _ _ _ (.inl q)⟩
  refine codeAny_call_function hr.depth (KX _ _ lk) rfl S.co S.gen rfl (PySem.W.codeRec_of KX hcd) (hb _ _ _ _ ?_)
  refine wpAny_newFunctionEnv_cells S.kind hkind fun env he s1 x => ?_
  subst he
  refine ⟨lim.keeps x.toInCall.keep, codeAny_func ?_⟩
  obtain ⟨t, ht, hq⟩ := hbody A outer s H vs Q E (hr.deeper _) hsp
  have I : Inv (cxOf CX P w K mg base N qual scope f cdv A outer s H E) [] (start N vs) H s1 := inv_start S hr.hd e0 hl r x
  refine wpAny_mono (ht [] s1 (start N vs) H _ I hq) (fun fl s' hs => ?_) fun e s' hs => hs
  have fin : ∀ {σ' : St} {H' : Hp} {v : V} {u : Value}, Inv (cxOf CX P w K mg base N qual scope f cdv A outer s H E) [] σ' H' s' → RelV v u → Q v H' → CE outer P w H s Q u s' :=
    fun {σ' H' v u} J rv q => ⟨v, H', J.os, J.bare, J.base, J.hok, rv, q⟩
  cases fl with
  | ret u =>
    obtain ⟨v, σ', H', J, rv, q⟩ := hs
    exact fin J rv q
  | next =>
    obtain ⟨σ', H', J, q⟩ := hs
    exact fin (v := V.non) (u := Value.none) J rfl q
  | brk =>
    obtain ⟨_, _, _, q⟩ := hs
    exact False.elim q
  | cont =>
    obtain ⟨_, _, _, q⟩ := hs
    exact False.elim q
end L2
namespace L2
open PySem PySem.Spec PyProof.Rows
section
variable {X : Cx} {x : Str} {p pos : Pos} {e : Expr} {es : List Expr} {t : TA} {id T : String} {r : List V → Hp → VK → Prop}
def tCB (r : List V → Hp → VK → Prop) (t : TA) : TE := fun σ H Q => t σ H fun vs H1 => r vs H1 Q
theorem pe_callB (hc : CallR X (.builtin id) r) (hg : Gl X x) (hm : X.mg x = none) (hv : bootBuiltins x = some (.builtin id)) (ha : PA X (e :: es) t) (hn : x ≠ "__name__" := by decide) (hdb : (x == ("__debug__" : Str)) = false := by decide)
    (he : starEach (e :: es) X.env = (false, eval e X.env) :: starEach es X.env := by rfl) (hpl : (backTo pos (starEach es X.env)).any (·.1) = false := by rfl) : PE X (.Call (.Name x p) (e :: es) [] pos) (tCB r t) := by
  refine ⟨?_⟩
  intro pins s σ H Q I h
  refine wpAny_Call_Name_kw (ld_blt I hg hm hv ?_ hn hdb)
  exact PyProof.Rows.callWith_builtin1 (thn (ha pos pins s σ H _ I h) fun us s1 ⟨vs, H1, I1, r1, q1⟩ => hc pins s1 σ H1 vs us Q I1 r1 q1) he hpl
theorem pe_callTy (hc : CallR X (.type T) r) (hg : Gl X x) (hm : X.mg x = none) (hv : bootBuiltins x = some (.type T)) (ha : PA X (e :: es) t) (hn : x ≠ "__name__" := by decide) (hdb : (x == ("__debug__" : Str)) = false := by decide)
    (he : starEach (e :: es) X.env = (false, eval e X.env) :: starEach es X.env := by rfl) (hpl : (backTo pos (starEach es X.env)).any (·.1) = false := by rfl) : PE X (.Call (.Name x p) (e :: es) [] pos) (tCB r t) := by
  refine ⟨?_⟩
  intro pins s σ H Q I h
  refine wpAny_Call_Name_kw (ld_blt I hg hm hv ?_ hn hdb)
  exact PyProof.Rows.callWith_type1 (thn (ha pos pins s σ H _ I h) fun us s1 ⟨vs, H1, I1, r1, q1⟩ => hc pins s1 σ H1 vs us Q I1 r1 q1) he hpl
end
end L2
namespace HT
open PySem PyProof.Rows
def lexLt : List Int → List Int → Bool
  | [], [] => false
  | [], _ :: _ => true
  | _ :: _, [] => false
  | x :: xs, y :: ys => if x = y then lexLt xs ys else decide (x < y)
section
open PySem.SeqAt
open PySem.AutoSeq1 (wpAny_loadPart')
open PySem.MeetsSeq PySem.MeetsSeq2 PySem.MeetsSeq3
end
section
variable {prog : Program} {w : World} {A : Around} {E : Value → Shared → Prop} {s : Shared}
theorem cat_tup {t b : Addr} {vs ws : List Value} {Q : Value → Shared → Prop} (ht : IsTup s.heap t vs.toArray) (hb : IsTup s.heap b ws.toArray) (hv : vs ≠ [])
    (h1 : ws = [] → Q (.ref t) s) (h2 : ws ≠ [] → Q (.ref s.heap.objs.size) { s with heap := s.heap.push { cls := .type "tuple", data := .seq (vs ++ ws).toArray } })
    (hsz : vs.length + ws.length ≤ sizeLine) : wpAny (model prog w) A (binaryOp .Add (.ref t) (.ref b)) Q E s := by
  obtain ⟨⟨cls, dd, data, sl⟩, ho, hc, n, hd⟩ := id ht
  obtain ⟨⟨cls2, dd2, data2, sl2⟩, ho2, hc2, n2, hd2⟩ := id hb
  simp only at hc hd hc2 hd2
  subst hc hd hc2 hd2
  have e : vs.toArray ++ ws.toArray = (vs ++ ws).toArray := by simp
  by_cases hw : ws = []
  · exact concat_meets ⟨_, ho, rfl⟩ ⟨_, ho2, rfl⟩ noFill_tuple_add seq_tuple_add PySem.F.slot_tuple_add PySem.F.entry_tuple_add (PySem.F.args_tuple_add_2 _ _)
      (tuple_addW1 t b vs.toArray ws.toArray n n2 dd dd2 sl sl2 (by simpa using hv) (by simp [hw])) ⟨ho, ho2, h1 hw⟩
  · refine concat_meets ⟨_, ho, rfl⟩ ⟨_, ho2, rfl⟩ noFill_tuple_add seq_tuple_add PySem.F.slot_tuple_add PySem.F.entry_tuple_add (PySem.F.args_tuple_add_2 _ _)
      (tuple_addW2 t b vs.toArray ws.toArray n n2 dd dd2 sl sl2 (by simpa using hv) (by simpa using hw) (by rw [List.size_toArray, List.size_toArray]; exact hsz)) ⟨ho, ho2, ?_⟩
    rw [e]
    exact h2 hw
def sIx (n d : Nat) : Option Int → Nat
  | none => d
  | some v => if v < 0 then (v + (n : Int)).toNat else min v.toNat n
theorem sIx_nat (n d k : Nat) : sIx n d (some (k : Int)) = min k n := by
  show (if (k : Int) < 0 then ((k : Int) + (n : Int)).toNat else min (k : Int).toNat n) = min k n
  rw [if_neg (by omega), Int.toNat_natCast]
theorem sIx_le (n d : Nat) (hd : d ≤ n) (o : Option Int) : sIx n d o ≤ n := by
  cases o with
  | none => exact hd
  | some v =>
    show (if v < 0 then (v + (n : Int)).toNat else min v.toNat n) ≤ n
    by_cases hv : v < 0
    · rw [if_pos hv]; omega
    · rw [if_neg hv]; exact Nat.min_le_right _ _
theorem clip_eq (v : Int) (n d : Nat) : (if v < 0 then max (v + (n : Int)) 0 else min v (n : Int)) = ((sIx n d (some v) : Nat) : Int) := by
  show (if v < 0 then max (v + (n : Int)) 0 else min v (n : Int)) = (((if v < 0 then (v + (n : Int)).toNat else min v.toNat n) : Nat) : Int)
  by_cases hv : v < 0
  · simp only [if_pos hv]; omega
  · simp only [if_neg hv]; omega
theorem adjust_gen (lo hi : Option Int) (n : Nat) : Builtin.Slice.sliceAdjust lo hi 1 (n : Int) = (((sIx n 0 lo : Nat) : Int), ((sIx n n hi : Nat) : Int)) := by
  have h1 : ¬ ((1 : Int) < 0) := by omega
  unfold Builtin.Slice.sliceAdjust
  simp only [h1, if_false]
  refine Prod.ext ?_ ?_
  · cases lo with
    | none => rfl
    | some v => exact clip_eq v n 0
  · cases hi with
    | none => rfl
    | some v => exact clip_eq v n n
theorem places_gen (i j : Nat) : Builtin.Slice.slicePlaces (i : Int) (j : Int) 1 = j - i := by
  unfold Builtin.Slice.slicePlaces
  have h1 : (1 : Int) > 0 := by omega
  simp only [h1, if_true, Int.ediv_one]
  split <;> omega
theorem slicePart_ {v : Value} {o : Option Int} {Q : Option Int → Shared → Prop} (p : IsPart v o) (h : Q o s) : wpAny (model prog w) A (Builtin.Slice.slicePartIndex v) Q E s := by
  cases p with
  | none => exact slicePart_none h
  | int i t => exact slicePart_int h
theorem sliceApplied_gen {sl : Addr} {vl vu : Value} {lo hi : Option Int} {n : Nat} {Q : Int × Int × Nat → Shared → Prop} (hs : s.heap.IsSliceOf sl vl vu .none) (pl : IsPart vl lo) (pu : IsPart vu hi)
    (h : Q (((sIx n 0 lo : Nat) : Int), 1, sIx n n hi - sIx n 0 lo) s) : wpAny (model prog w) A (Builtin.Slice.sliceApplied (.ref sl) (pure (n : Int))) Q E s := by
  obtain ⟨os, hos, hcs, hds⟩ := id hs
  unfold Builtin.Slice.sliceApplied Builtin.Slice.sliceFields
  refine wpAny_bind (wpAny_bind (wpAny_field hos hds (x := vl) rfl (wpAny_bind (wpAny_field hos hds (x := vu) rfl (wpAny_bind (wpAny_field hos hds (x := .none) rfl (wpAny_pure ?_)))))))
  refine wpAny_bind (slicePart_none ?_)
  show wpAny _ _ (if ((1 : Int) == 0) = true then _ else _) _ _ s
  rw [if_neg (by decide)]
  refine wpAny_bind (slicePart_ pl (wpAny_bind (slicePart_ pu (wpAny_bind (wpAny_pure ?_)))))
  show wpAny _ _ (match Builtin.Slice.sliceAdjust lo hi 1 (n : Int) with | (lo, hi) => pure (lo, (1 : Int), Builtin.Slice.slicePlaces lo hi 1)) _ _ s
  rw [adjust_gen lo hi n]
  show wpAny _ _ (pure (((sIx n 0 lo : Nat) : Int), (1 : Int), Builtin.Slice.slicePlaces ((sIx n 0 lo : Nat) : Int) ((sIx n n hi : Nat) : Int) 1)) _ _ s
  rw [places_gen]
  exact wpAny_pure h
theorem pick_gen (xs : Array Value) (i k : Nat) : ((List.range k).filterMap fun (m : Nat) => xs[((i : Int) + (m : Int) * 1).toNat]?).toArray = ((xs.toList.drop i).take k).toArray := by
  have e : (fun (m : Nat) => xs[((i : Int) + (m : Int) * 1).toNat]?) = fun m => xs[i + m]? := by
    funext m
    have : ((i : Int) + (m : Int) * 1).toNat = i + m := by omega
    rw [this]
  rw [e]
  have := pick_run xs i k
  rw [List.filterMap_map] at this
  have e2 : ((fun x => xs[x]?) ∘ fun x => i + x) = fun m => xs[i + m]? := rfl
  rw [e2] at this
  rw [this]
theorem getItem_tuple_cut {t sl : Addr} {items : Array Value} {vl vu : Value} {lo hi : Option Int} {Q : Value → Shared → Prop} (ht : IsTup s.heap t items) (hs : s.heap.IsSliceOf sl vl vu .none) (pl : IsPart vl lo) (pu : IsPart vu hi)
    (hw : ¬ (sIx items.size 0 lo = 0 ∧ sIx items.size items.size hi = items.size))
    (h : Q (.ref s.heap.objs.size) { s with heap := s.heap.push { cls := .type "tuple", data := .seq ((items.toList.drop (sIx items.size 0 lo)).take (sIx items.size items.size hi - sIx items.size 0 lo)).toArray } })
    (hsz : items.size ≤ sizeLine) : wpAny (model prog w) A (getItem (.ref t) (.ref sl)) Q E s := by
  have htake : sizeOk (.seq ((items.toList.drop (sIx items.size 0 lo)).take (sIx items.size items.size hi - sIx items.size 0 lo)).toArray) := by
    show ((items.toList.drop (sIx items.size 0 lo)).take (sIx items.size items.size hi - sIx items.size 0 lo)).toArray.size ≤ sizeLine
    rw [List.size_toArray, List.length_take, List.length_drop, Array.length_toList]
    omega
  have hj : sIx items.size items.size hi ≤ items.size := sIx_le _ _ (Nat.le_refl _) hi
  obtain ⟨os, hos, hcs, hds⟩ := id hs
  have hTs : s.TypeIs (.ref sl) "slice" := ⟨os, hos, hcs⟩
  unfold getItem
  try with_reducible refine wpAny_holding ?_
  first | refine wpAny_bind (wpAny_pure ?_) | skip
  refine wpAny_bind (wpAny_sequenceKey ht.typeIs (by decide) ?_)
  refine wpAny_bind (wpAny_callSpecial?_slot (name := Str.ofString "__getitem__") ht.typeIs PyProof.Rows.slot_tuple_getitem
    (wpAny_call_entry PyProof.Rows.slot_tuple_getitem ht.typeIs entry_tuple_getitem ?_ (args_tuple_getitem _ _)))
  show wpAny _ _ (Builtin.Tuple.tupleItemsOf (.ref t) >>= _) _ _ s
  refine wpAny_bind (tupleItemsOf_ ht ?_)
  refine wpAny_bind (wpAny_typeOf hTs ?_)
  rw [if_pos (by decide)]
  refine wpAny_bind (sliceApplied_gen hs pl pu ?_)
  have hno : ¬ ((((sIx items.size 0 lo : Nat) : Int) == 0 && (1 : Int) == 1 && (sIx items.size items.size hi - sIx items.size 0 lo) == items.size) = true) := by
    intro q
    rw [Bool.and_eq_true, Bool.and_eq_true] at q
    have q1 : ((sIx items.size 0 lo : Nat) : Int) = 0 := eq_of_beq q.1.1
    have q2 : sIx items.size items.size hi - sIx items.size 0 lo = items.size := eq_of_beq q.2
    exact hw ⟨by omega, by omega⟩
  show wpAny _ _ (if (((sIx items.size 0 lo : Nat) : Int) == 0 && (1 : Int) == 1 && (sIx items.size items.size hi - sIx items.size 0 lo) == items.size) = true then _ else _) _ _ s
  rw [if_neg hno, pick_gen]
  first
    | exact wpAny_bind (m := Builtin.Tuple.tupleExact _) (wpAny_newObj_type (wpAny_pure ⟨_, rfl, wpAny_pure h⟩) htake)
    | exact wpAny_bind (m := Builtin.Tuple.tupleExact _) (wpAny_newObj_type (wpAny_bind (wpAny_pure (wpAny_pure ⟨_, rfl, wpAny_pure h⟩))) htake)
    | exact wpAny_bind (wpAny_bind (m := Builtin.Tuple.tupleExact _) (wpAny_newObj_type (wpAny_pure (wpAny_pure ⟨_, rfl, wpAny_pure h⟩)) htake))
    | exact wpAny_bind (wpAny_bind (m := Builtin.Tuple.tupleExact _) (wpAny_newObj_type (wpAny_pure ⟨_, rfl, wpAny_pure h⟩) htake))
end
end HT
namespace L2
open PySem PySem.Spec PyProof.Rows
abbrev TO := St → Hp → (Option Int → Hp → Prop) → Prop
def PO (X : Cx) (e : Option Expr) (t : TO) : Prop :=
  ∀ (pins : List (Addr × Obj)) (s : Shared) (σ : St) (H : Hp) (Q : Option Int → Hp → Prop), Inv X pins σ H s → t σ H Q →
    wpAny (model X.prog X.w) X.A (evalPart e X.env) (fun u s' => ∃ o H', Inv X pins σ H' s' ∧ IsPart u o ∧ Q o H') X.xe s
def tNoPart : TO := fun _ H Q => Q none H
def tPart (t : TE) : TO := fun σ H Q => t σ H fun x H1 => ∃ i, x = .int i ∧ Q (some i) H1
section
variable {X : Cx} {e : Expr} {te : TE} {lo hi : Option Expr} {tl th : TO} {pos p2 : Pos}
theorem po_none : PO X none tNoPart := by
  intro pins s σ H Q I h
  rw [evalPart_none]
  exact wpAny_pure ⟨none, H, I, .none, h⟩
theorem po_some (h : PE X e te) : PO X (some e) (tPart te) := by
  intro pins s σ H Q I hw
  rw [evalPart_some]
  refine thn (h pins s σ H _ I hw) fun u s1 ⟨x, H1, I1, r1, q1⟩ => ?_
  obtain ⟨i, rfl, q⟩ := q1
  obtain ⟨t, rfl⟩ := r1
  exact ⟨some i, H1, I1, .int i t, q⟩
def SlR (X : Cx) (r : V → Option Int → Option Int → Hp → VK → Prop) : Prop :=
  ∀ (pins : List (Addr × Obj)) (s : Shared) (σ : St) (H : Hp) (x : V) (v vl vu : Value) (lo hi : Option Int) (sl : Addr) (Q : VK), Inv X pins σ H s → RelV x v → s.heap.IsSliceOf sl vl vu .none → IsPart vl lo → IsPart vu hi → r x lo hi H Q →
    ∃ T id, typeLookup (.type T) "__getitem__" = pure (some (.builtin id)) ∧ s.TypeIs v T ∧ wpAny (model X.prog X.w) X.A (getItem v (.ref sl)) (EP X pins σ Q) X.xe s
theorem SlR.or {r r' : V → Option Int → Option Int → Hp → VK → Prop} (h : SlR X r) (h' : SlR X r') : SlR X (fun x lo hi H Q => r x lo hi H Q ∨ r' x lo hi H Q) := by
  intro pins s σ H x v vl vu lo hi sl Q I rx hs pl pu q
  rcases q with q | q
  · exact h pins s σ H x v vl vu lo hi sl Q I rx hs pl pu q
  · exact h' pins s σ H x v vl vu lo hi sl Q I rx hs pl pu q
def tSl (r : V → Option Int → Option Int → Hp → VK → Prop) (te : TE) (tl th : TO) : TE := fun σ H Q => te σ H fun x H1 => tl σ H1 fun l H2 => th σ H2 fun u H3 => r x l u H3 Q
theorem pe_slice {r : V → Option Int → Option Int → Hp → VK → Prop} (hr : SlR X r) (he : PE X e te) (hl : PO X lo tl) (hu : PO X hi th) : PE X (.Subscript e (.Slice lo hi none p2) pos) (tSl r te tl th) := by
  refine ⟨?_⟩
  intro pins s σ H Q I h
  refine Subscript_ (thn (he pins s σ H _ I h) fun v s1 ⟨x, H1, I1, r1, q1⟩ => ?_)
  refine wpAny_Slice (thn (hl pins s1 σ H1 _ I1 q1) fun vl s2 ⟨l, H2, I2, pl, q2⟩ => thn (hu pins s2 σ H2 _ I2 q2) fun vu s3 ⟨u, H3, I3, pu, q3⟩ => ?_)
  rw [evalPart_none]
  refine wpAny_pure ?_
  have I4 : Inv X pins σ H3 { s3 with heap := s3.heap.push { cls := .type "slice", data := .fields #[vl, vu, .none] } } := I3.kept (t' := s3.toks) fun b ob q => Heap.get?_push_of_some _ q
  obtain ⟨T, id, hT, ht, hg⟩ := hr pins { s3 with heap := s3.heap.push { cls := .type "slice", data := .fields #[vl, vu, .none] } } σ H3 x v vl vu l u s3.heap.objs.size Q I4 r1 (Heap.IsSliceOf.new ..) pl pu q3
  show wpAny (model X.prog X.w) X.A (subscriptTail e (.Slice lo hi none p2) v (.ref s3.heap.objs.size)) (EP X pins σ Q) X.xe { s3 with heap := s3.heap.push { cls := .type "slice", data := .fields #[vl, vu, .none] } }
  exact tail_any (ops := [.ref s3.heap.objs.size, v]) ht hT hg (by with_unfolding_all rfl)
def cutV (xs : List V) (lo hi : Option Int) : List V := (xs.drop (HT.sIx xs.length 0 lo)).take (HT.sIx xs.length xs.length hi - HT.sIx xs.length 0 lo)
theorem cutV_length (xs : List V) (lo hi : Option Int) : (cutV xs lo hi).length ≤ xs.length := by
  unfold cutV
  rw [List.length_take, List.length_drop]
  omega
def rSlT (K : PySem.W.Frag) : V → Option Int → Option Int → Hp → VK → Prop := fun x lo hi H Q => ∃ a xs, x = .ref a ∧ SqT K H a xs ∧
  ¬ (HT.sIx xs.length 0 lo = 0 ∧ HT.sIx xs.length xs.length hi = xs.length) ∧ ∀ p, H p = none → Q (.ref p) (upd H p (.tup (cutV xs lo hi)))
theorem sl_tup : SlR X (rSlT X.K) := by
  intro pins s σ H x v vl vu lo hi sl Q I rx hs pl pu h
  obtain ⟨a, xs, rfl, hx, hw, q⟩ := h
  cases rx
  obtain ⟨its, r, ht, hz⟩ := I.tuple hx
  have hlen : its.toArray.size = xs.length := by rw [List.size_toArray]; exact r.length.symm
  refine ⟨"tuple", _, PyProof.Rows.slot_tuple_getitem.lookup, ht.typeIs, ?_⟩
  refine HT.getItem_tuple_cut ht hs pl pu (by rw [hlen]; exact hw) ?_ (by rw [hlen]; exact hz)
  rw [hlen]
  refine ⟨.ref s.heap.objs.size, _, I.laid (t' := s.toks) (o := .tup (cutV xs lo hi)) (fun b ob q => Heap.get?_push_of_some _ q) (Nat.le_refl _) ?_, rfl, q _ (I.hok.fresh (Nat.le_refl _))⟩
  exact ⟨Nat.le_trans (cutV_length xs lo hi) hz, _, (r.drop (HT.sIx xs.length 0 lo)).take (HT.sIx xs.length xs.length hi - HT.sIx xs.length 0 lo), IsTup.new _ _⟩
def rLtT (K : PySem.W.Frag) : R2 := fun x y H Q => ∃ a b ns ms, x = .ref a ∧ y = .ref b ∧ SqT K H a (ns.map V.int) ∧ SqT K H b (ms.map V.int) ∧ Q (.bl (HT.lexLt ns ms)) H
def rCatT (K : PySem.W.Frag) : R2 := fun x y H Q => ∃ a b xs ys, x = .ref a ∧ y = .ref b ∧ SqT K H a xs ∧ SqT K H b ys ∧ xs ≠ [] ∧ xs.length + ys.length ≤ sizeLine ∧
  (ys = [] → Q (.ref a) H) ∧ (ys ≠ [] → ∀ p, H p = none → Q (.ref p) (upd H p (.tup (xs ++ ys))))
theorem Vals.nil_iff {xs : List V} {us : List Value} (r : Vals xs us) : us = [] ↔ xs = [] := by
  cases r with
  | nil => simp
  | cons _ _ => simp
theorem op_catT : OpR X (binaryOp .Add) (rCatT X.K) := by
  intro pins s σ H x y v u Q I rx ry h
  obtain ⟨a, b, xs, ys, rfl, rfl, ha, hb, hx, hz, q1, q2⟩ := h
  cases rx
  cases ry
  obtain ⟨its, r1, p1, _⟩ := I.tuple ha
  obtain ⟨its2, r2, p2, _⟩ := I.tuple hb
  refine HT.cat_tup p1 p2 (fun z => hx (r1.nil_iff.mp z)) (fun z => ⟨.ref a, H, I, rfl, q1 (r2.nil_iff.mp z)⟩) (fun z => ?_) (by rw [← r1.length, ← r2.length]; exact hz)
  refine ⟨.ref s.heap.objs.size, _, I.laid (t' := s.toks) (o := .tup (xs ++ ys)) (fun b ob q => Heap.get?_push_of_some _ q) (Nat.le_refl _) ?_, rfl, q2 (fun w => z (r2.nil_iff.mpr w)) _ (I.hok.fresh (Nat.le_refl _))⟩
  exact ⟨by rw [List.length_append]; exact hz, _, r1.append r2, IsTup.new _ _⟩
end
end L2
namespace L2
open PySem PySem.Spec PyProof.Rows
def ixN (n : Nat) (i : Int) : Option Nat := if 0 ≤ i then (if i < n then some i.toNat else none) else if -(n : Int) ≤ i then some (i + n).toNat else none
def atI {α : Type} (xs : List α) (i : Int) : Option α := (ixN xs.length i).bind fun j => xs[j]?
theorem ixN_seq {n : Nat} {i : Int} {j : Nat} (h : ixN n i = some j) : seqIndex? i n = some j ∧ j < n ∧ -(n : Int) ≤ i ∧ i < n := by
  unfold ixN at h
  by_cases h0 : 0 ≤ i
  · rw [if_pos h0] at h
    by_cases h1 : i < n
    · rw [if_pos h1] at h
      have e : i.toNat = j := Option.some.inj h
      exact ⟨by rw [seqIndex_of h0 h1, e], by omega, by omega, h1⟩
    · rw [if_neg h1] at h; cases h
  · rw [if_neg h0] at h
    by_cases h1 : -(n : Int) ≤ i
    · rw [if_pos h1] at h
      have e : (i + n).toNat = j := Option.some.inj h
      exact ⟨by rw [seqIndex_neg (by omega) h1, e], by omega, h1, by omega⟩
    · rw [if_neg h1] at h; cases h
theorem atI_get {α : Type} {xs : List α} {i : Int} {v : α} (h : atI xs i = some v) : ∃ j, seqIndex? i xs.length = some j ∧ xs[j]? = some v ∧ j < xs.length ∧ -(xs.length : Int) ≤ i ∧ i < xs.length := by
  unfold atI at h
  cases e : ixN xs.length i with
  | none => rw [e] at h; cases h
  | some j =>
    rw [e] at h
    obtain ⟨h1, h2, h3, h4⟩ := ixN_seq e
    exact ⟨j, h1, h, h2, h3, h4⟩
theorem atI_nat {α : Type} {xs : List α} {j : Nat} {v : α} (h : xs[j]? = some v) : atI xs (j : Int) = some v := by
  have hj : j < xs.length := (List.getElem?_eq_some_iff.mp h).1
  have e : ixN xs.length (j : Int) = some j := by
    unfold ixN
    rw [if_pos (by omega), if_pos (by omega)]; simp
  unfold atI; rw [e]; exact h
def PlainIx (b : Expr) : Prop := ∀ o i, subscripted b false o i = operate [o, i] (getItem o i)
def IxR (X : Cx) (r : R2) : Prop :=
  ∀ (value slice : Expr) (pins : List (Addr × Obj)) (s : Shared) (σ : St) (H : Hp) (x y : V) (v u : Value) (Q : VK), Inv X pins σ H s → RelV x v → RelV y u → r x y H Q →
    subscripted slice false v u = operate [v, u] (getItem v u) → wpAny (model X.prog X.w) X.A (subscriptTail value slice v u) (EP X pins σ Q) X.xe s
def MtR (X : Cx) (id : String) (r : V → List V → Hp → VK → Prop) : Prop :=
  ∀ (pins : List (Addr × Obj)) (s : Shared) (σ : St) (H : Hp) (x : V) (xs : List V) (v : Value) (us : List Value) (Q : VK), Inv X pins σ H s → RelV x v → Vals xs us → r x xs H Q →
    wpAny (model X.prog X.w) X.A (call (.builtin id) (v :: us)) (EP X pins σ Q) X.xe s
section
variable {X : Cx} {a b : Expr} {ta tb : TE} {pos : Pos}
theorem IxR.or {r r' : R2} (h : IxR X r) (h' : IxR X r') : IxR X (fun x y H Q => r x y H Q ∨ r' x y H Q) := by
  intro value slice pins s σ H x y v u Q I rx ry q hs
  rcases q with q | q
  · exact h value slice pins s σ H x y v u Q I rx ry q hs
  · exact h' value slice pins s σ H x y v u Q I rx ry q hs
theorem MtR.or {id : String} {r r' : V → List V → Hp → VK → Prop} (h : MtR X id r) (h' : MtR X id r') : MtR X id (fun x xs H Q => r x xs H Q ∨ r' x xs H Q) := by
  intro pins s σ H x xs v us Q I rx rs q
  rcases q with q | q
  · exact h pins s σ H x xs v us Q I rx rs q
  · exact h' pins s σ H x xs v us Q I rx rs q
theorem pe_ix {r : R2} (hr : IxR X r) (ha : PE X a ta) (hb : PE X b tb) (hs : PlainIx b) : PE X (.Subscript a b pos) (tOp r ta tb) := by
  refine ⟨?_⟩
  intro pins s σ H Q I h
  exact Subscript_ (binT ha hb I h fun v u s2 x y H2 I2 rx ry q => hr a b pins s2 σ H2 x y v u Q I2 rx ry q (hs _ _))
def rIxL (K : PySem.W.Frag) : R2 := fun x y H Q => ∃ p xs i v, x = .ref p ∧ y = .int i ∧ SqL K H p xs ∧ atI xs i = some v ∧ Q v H
def rIxT (K : PySem.W.Frag) : R2 := fun x y H Q => ∃ p xs i v, x = .ref p ∧ y = .int i ∧ SqT K H p xs ∧ atI xs i = some v ∧ Q v H
def rIxS : R2 := fun x y H Q => ∃ z i c, x = .str z ∧ y = .int i ∧ z.length ≤ sizeLine ∧ atI z.cps.toList i = some c ∧ Q (.str ⟨#[c]⟩) H
theorem ix_list : IxR X (rIxL X.K) := by
  intro value slice pins s σ H x y v u Q I rx ry h hs
  obtain ⟨p, xs, i, z, rfl, rfl, hq, he, q⟩ := h
  cases rx
  obtain ⟨t, rfl⟩ := ry
  obtain ⟨its, r, pl, hz⟩ := I.list hq
  obtain ⟨j, h1, h2, h3, h4, h5⟩ := atI_get he
  obtain ⟨w, ew, rw'⟩ := r.get h2
  have hl := r.length
  have hn := line63
  have fin : EP X pins σ Q w s := ⟨z, H, I, rw', q⟩
  by_cases h0 : 0 ≤ i
  · have hj : i.toNat = j := by
      rw [seqIndex_of h0 h5] at h1
      exact Option.some.inj h1
    exact item_listR pl.isList h0 (by omega) (by rw [hj]; simpa using ew) fin hs
  · have hj : (i + (its.toArray.size : Int)).toNat = j := by
      rw [seqIndex_neg (by omega) h4] at h1
      rw [List.size_toArray, ← hl]
      exact Option.some.inj h1
    exact subscriptTail_builtinR (x := w) pl.isList.typeIs slot_list_getitem.lookup
      (wpAny_getItem_list_neg (Q := fun r s' => r = w ∧ EP X pins σ Q r s') pl.isList (by omega) (by rw [List.size_toArray] <;> omega) (by omega) (by rw [hj]; simpa using ew) ⟨rfl, fin⟩) hs
theorem ix_tup : IxR X (rIxT X.K) := by
  intro value slice pins s σ H x y v u Q I rx ry h hs
  obtain ⟨p, xs, i, z, rfl, rfl, hq, he, q⟩ := h
  cases rx
  obtain ⟨t, rfl⟩ := ry
  obtain ⟨its, r, pl, hz⟩ := I.tuple hq
  obtain ⟨j, h1, h2, h3, h4, h5⟩ := atI_get he
  obtain ⟨w, ew, rw'⟩ := r.get h2
  have hl := r.length
  have hn := line63
  have fin : EP X pins σ Q w s := ⟨z, H, I, rw', q⟩
  exact subscriptTail_builtinR (x := w) pl.typeIs slot_tuple_getitem.lookup
    (getItem_tuple (j := j) (Q := fun r s' => r = w ∧ EP X pins σ Q r s') pl (by omega) (by omega) (by rw [List.size_toArray, ← hl]; exact h1) (by simpa using ew) ⟨rfl, fin⟩) hs
theorem ix_str : IxR X rIxS := by
  intro value slice pins s σ H x y v u Q I rx ry h hs
  obtain ⟨z, i, c, rfl, rfl, hz, he, q⟩ := h
  obtain ⟨t, rfl⟩ := rx
  obtain ⟨t', rfl⟩ := ry
  obtain ⟨j, h1, h2, h3, h4, h5⟩ := atI_get he
  have hl : z.cps.toList.length = z.length := by simp [Str.length]
  rw [hl] at h1 h4 h5
  have hn := line63
  exact tail_any (typeIs_str s z t) slot_str_getitem.lookup (getItem_str (c := c) (by
    have e1 : decide (i < -(2 ^ 63 : Int)) = false := decide_eq_false (by omega)
    have e2 : decide (i ≥ 2 ^ 63) = false := decide_eq_false (by omega)
    rw [e1, e2, Bool.or_false]) (by rw [h1]; simpa using h2) ⟨.str ⟨#[c]⟩, H, I.tok _, ⟨_, rfl⟩, q⟩) hs
def rIx (K : PySem.W.Frag) : R2 := fun x y H Q => rIxL K x y H Q ∨ rIxT K x y H Q ∨ rIxS x y H Q
theorem ix_seq : IxR X (rIx X.K) := ix_list.or (ix_tup.or ix_str)
theorem Inv.lst {pins : List (Addr × Obj)} {σ : St} {H : Hp} {s : Shared} {p : Addr} {xs : List V} (I : Inv X pins σ H s) (h : H p = some (.lst xs)) :
    ∃ (its : List Value) (n : Nat), Vals xs its ∧ s.heap.get? p = some { cls := .type "list", data := .seq its.toArray n } ∧ xs.length ≤ sizeLine := by
  obtain ⟨z, its, n, r, e⟩ := I.hok p _ h
  exact ⟨its, n, r, e, z⟩
def rSetL : V → V → V → Hp → (Hp → Prop) → Prop := fun o i v H Q => ∃ p xs k j, o = .ref p ∧ i = .int k ∧ H p = some (.lst xs) ∧ ixN xs.length k = some j ∧ Q (upd H p (.lst (xs.set j v)))
theorem slice_bounds (lo hi : Option Int) (n : Nat) : (sliceBounds lo hi none n).1 = ((HT.sIx n 0 lo : Nat) : Int) ∧ (sliceBounds lo hi none n).2.1 = ((HT.sIx n n hi : Nat) : Int) ∧ (sliceBounds lo hi none n).2.2 = 1 := by
  refine ⟨?_, ?_, rfl⟩
  · cases lo with
    | none => simp [sliceBounds, HT.sIx]
    | some i =>
      simp only [sliceBounds, HT.sIx, Option.getD_none, show (1 : Int) > 0 by decide, if_true]
      by_cases h : i < 0
      · simp only [h, if_true] <;> omega
      · simp only [h, if_false] <;> omega
  · cases hi with
    | none => simp [sliceBounds, HT.sIx]
    | some i =>
      simp only [sliceBounds, HT.sIx, Option.getD_none, show (1 : Int) > 0 by decide, if_true]
      by_cases h : i < 0
      · simp only [h, if_true] <;> omega
      · simp only [h, if_false] <;> omega
theorem slicePick_cut (its : List Value) (lo hi : Option Int) : slicePick its.toArray lo hi none = ((its.drop (HT.sIx its.length 0 lo)).take (HT.sIx its.length its.length hi - HT.sIx its.length 0 lo)).toArray := by
  obtain ⟨h1, h2, h3⟩ := slice_bounds lo hi its.toArray.size
  unfold slicePick
  rw [h1, h2, h3]
  simp only [sliceRange_one, pick_run, List.size_toArray] <;> rfl
def rSlL (K : PySem.W.Frag) : V → Option Int → Option Int → Hp → VK → Prop := fun x lo hi H Q => ∃ a xs, x = .ref a ∧ SqL K H a xs ∧ ∀ p, H p = none → Q (.ref p) (upd H p (.lst (cutV xs lo hi)))
theorem sl_list : SlR X (rSlL X.K) := by
  intro pins s σ H x v vl vu lo hi sl Q I rx hs pl pu h
  obtain ⟨a, xs, rfl, hx, q⟩ := h
  cases rx
  obtain ⟨its, r, ht, hz⟩ := I.list hx
  have hlen := r.length
  refine ⟨"list", _, slot_list_getitem.lookup, ht.isList.typeIs, ?_⟩
  refine wpAny_getItem_list_slice ht.isList hs pl pu .none (by simp) ?_ (by rw [List.size_toArray] <;> omega)
  rw [slicePick_cut, ← hlen]
  refine ⟨.ref s.heap.objs.size, _, I.laid (t' := s.toks) (o := .lst (cutV xs lo hi)) (fun b ob q => Heap.get?_push_of_some _ q) (Nat.le_refl _) ?_, rfl, q _ (I.hok.fresh (Nat.le_refl _))⟩
  exact ⟨Nat.le_trans (cutV_length xs lo hi) hz, _, 0, (r.drop (HT.sIx xs.length 0 lo)).take (HT.sIx xs.length xs.length hi - HT.sIx xs.length 0 lo), Heap.get?_push_size _ rfl⟩
def flatV : V → Bool
  | .non => true
  | .bl _ => true
  | .int _ => true
  | .str _ => true
  | _ => false
def eqV : V → V → Bool
  | .non, .non => true
  | .bl a, .bl b => a == b
  | .bl a, .int b => (if a then 1 else 0) == b
  | .int a, .bl b => a == (if b then 1 else 0)
  | .int a, .int b => a == b
  | .str a, .str b => a == b
  | _, _ => false
theorem eqAt_V {A : Around} {s : Shared} {y x : V} {u v : Value} (ry : RelV y u) (rx : RelV x v) (fy : flatV y = true) (fx : flatV x = true) : SeqAt.EqAt A s u v (eqV y x) := by
  cases y with
  | non =>
    cases ry
    cases x with
    | non => cases rx; exact SeqAt.EqAt.same _
    | bl b => cases rx; exact SeqAt.EqAt.none_bool b
    | int b => obtain ⟨t, rfl⟩ := rx; exact SeqAt.EqAt.none_int b t
    | str b => obtain ⟨t, rfl⟩ := rx; exact SeqAt.EqAt.none_str b t
    | _ => exact absurd (show false = true from fx) Bool.false_ne_true
  | bl a =>
    cases ry
    cases x with
    | non => cases rx; exact SeqAt.EqAt.bool_none a
    | bl b => cases rx; exact SeqAt.EqAt.bool_bool a b
    | int b => obtain ⟨t, rfl⟩ := rx; exact SeqAt.EqAt.bool_int a b t
    | str b => obtain ⟨t, rfl⟩ := rx; exact SeqAt.EqAt.bool_str a b t
    | _ => exact absurd (show false = true from fx) Bool.false_ne_true
  | int a =>
    obtain ⟨t', rfl⟩ := ry
    cases x with
    | non => cases rx; exact SeqAt.EqAt.int_none a t'
    | bl b => cases rx; exact SeqAt.EqAt.int_bool a t' b
    | int b => obtain ⟨t, rfl⟩ := rx; exact SeqAt.EqAt.int_int a t' b t
    | str b => obtain ⟨t, rfl⟩ := rx; exact SeqAt.EqAt.int_str a t' b t
    | _ => exact absurd (show false = true from fx) Bool.false_ne_true
  | str a =>
    obtain ⟨t', rfl⟩ := ry
    cases x with
    | non => cases rx; exact SeqAt.EqAt.str_none a t'
    | bl b => cases rx; exact SeqAt.EqAt.str_bool a t' b
    | int b => obtain ⟨t, rfl⟩ := rx; exact SeqAt.EqAt.str_int a t' b t
    | str b => obtain ⟨t, rfl⟩ := rx; exact SeqAt.EqAt.str_str a t' b t
    | _ => exact absurd (show false = true from fx) Bool.false_ne_true
  | _ => exact absurd (show false = true from fy) Bool.false_ne_true
def eqU (x : V) (u : Value) : Bool := match u with
  | .none => eqV .non x
  | .bool b => eqV (.bl b) x
  | .int i _ => eqV (.int i) x
  | .str z _ => eqV (.str z) x
  | _ => false
theorem eqU_of {x y : V} {u : Value} (r : RelV y u) (f : flatV y = true) : eqU x u = eqV y x := by
  cases y with
  | non => cases r; rfl
  | bl b => cases r; rfl
  | int i => obtain ⟨t, rfl⟩ := r; rfl
  | str z => obtain ⟨t, rfl⟩ := r; rfl
  | _ => exact absurd (show false = true from f) Bool.false_ne_true
theorem any_eqU {x : V} : ∀ {xs : List V} {us : List Value}, Vals xs us → xs.all flatV = true → us.any (eqU x) = xs.any fun y => eqV y x
  | _, _, .nil, _ => rfl
  | y :: xs, u :: us, .cons r t, f => by
    rw [List.all_cons, Bool.and_eq_true] at f
    rw [List.any_cons, List.any_cons, eqU_of r f.1, any_eqU t f.2]
theorem mem_eqAt {A : Around} {s : Shared} {x : V} {v : Value} (rx : RelV x v) (fx : flatV x = true) : ∀ {xs : List V} {us : List Value}, Vals xs us → xs.all flatV = true → ∀ u ∈ us, SeqAt.EqAt A s u v (eqU x u)
  | _, _, .nil, _ => fun u hu => by cases hu
  | y :: xs, u :: us, .cons r t, f => fun u' hu => by
    rw [List.all_cons, Bool.and_eq_true] at f
    rcases List.mem_cons.mp hu with rfl | hu
    · rw [eqU_of r f.1]; exact eqAt_V r rx f.1 fx
    · exact mem_eqAt rx fx t f.2 u' hu
def inV (x : V) (xs : List V) : Bool := xs.any fun y => eqV y x
def rIn (K : PySem.W.Frag) (neg : Bool) : R2 := fun x y H Q => ∃ p xs, y = .ref p ∧ (SqL K H p xs ∨ SqT K H p xs) ∧ flatV x = true ∧ xs.all flatV = true ∧ Q (.bl (if neg then !inV x xs else inV x xs)) H
theorem op_in_seq : OpR X (compareOp .In) (rIn X.K false) := by
  intro pins s σ H x y v u Q I rx ry h
  obtain ⟨p, xs, rfl, hq, fx, fs, q⟩ := h
  cases ry
  rcases hq with hq | hq
  · obtain ⟨its, r, pl, hz⟩ := I.list hq
    refine SeqAt.in_listAt (eqU x) pl.isList (fun w hw => mem_eqAt rx fx r fs w (by simpa using hw)) ⟨.bl _, H, I, rfl, ?_⟩
    rw [show its.toArray.any (eqU x) = its.any (eqU x) by simp, any_eqU r fs]
    exact q
  · obtain ⟨its, r, pl, hz⟩ := I.tuple hq
    refine SeqAt.in_tupleAt (eqU x) pl (fun w hw => mem_eqAt rx fx r fs w (by simpa using hw)) ⟨.bl _, H, I, rfl, ?_⟩
    rw [show its.toArray.any (eqU x) = its.any (eqU x) by simp, any_eqU r fs]
    exact q
theorem op_notIn_seq : OpR X (compareOp .NotIn) (rIn X.K true) := by
  intro pins s σ H x y v u Q I rx ry h
  obtain ⟨p, xs, rfl, hq, fx, fs, q⟩ := h
  cases ry
  rcases hq with hq | hq
  · obtain ⟨its, r, pl, hz⟩ := I.list hq
    refine SeqAt.notIn_listAt (eqU x) pl.isList (fun w hw => mem_eqAt rx fx r fs w (by simpa using hw)) ⟨.bl _, H, I, rfl, ?_⟩
    rw [show its.toArray.any (eqU x) = its.any (eqU x) by simp, any_eqU r fs]
    exact q
  · obtain ⟨its, r, pl, hz⟩ := I.tuple hq
    refine SeqAt.notIn_tupleAt (eqU x) pl (fun w hw => mem_eqAt rx fx r fs w (by simpa using hw)) ⟨.bl _, H, I, rfl, ?_⟩
    rw [show its.toArray.any (eqU x) = its.any (eqU x) by simp, any_eqU r fs]
    exact q
theorem call_len_seq : CallR X (.builtin "len") (fun xs H Q => ∃ p ys, xs = [.ref p] ∧ (SqL X.K H p ys ∨ SqT X.K H p ys) ∧ Q (.int ys.length) H) := by
  intro pins s σ H xs us Q I r h
  obtain ⟨p, ys, rfl, hq, q⟩ := h
  obtain ⟨u, rfl, rx⟩ := vals1 r
  cases rx
  have hn := line63
  rcases hq with hq | hq
  · obtain ⟨its, r', pl, hz⟩ := I.list hq
    have hlen := r'.length
    exact Calls.call_len_list pl.isList (by simp only [List.size_toArray] <;> omega) ⟨.int ys.length, H, I.tok _, ⟨s.toks + 1, by rw [List.size_toArray, hlen]⟩, q⟩
  · obtain ⟨its, r', pl, hz⟩ := I.tuple hq
    have hlen := r'.length
    exact len_tuple pl (by simp only [List.size_toArray] <;> omega) ⟨.int ys.length, H, I.tok _, ⟨s.toks + 1, by rw [List.size_toArray, hlen]⟩, q⟩
theorem CallR.or {f : Value} {r r' : List V → Hp → VK → Prop} (h : CallR X f r) (h' : CallR X f r') : CallR X f (fun xs H Q => r xs H Q ∨ r' xs H Q) := by
  intro pins s σ H xs us Q I rs q
  rcases q with q | q
  · exact h pins s σ H xs us Q I rs q
  · exact h' pins s σ H xs us Q I rs q
theorem call_list_of : CallR X (.type "list") (fun xs H Q => ∃ p ys, xs = [.ref p] ∧ (SqL X.K H p ys ∨ SqT X.K H p ys) ∧ ∀ l, H l = none → Q (.ref l) (upd H l (.lst ys))) := by
  intro pins s σ H xs us Q I r h
  obtain ⟨p, ys, rfl, hq, q⟩ := h
  obtain ⟨u, rfl, rx⟩ := vals1 r
  cases rx
  have fin : ∀ (its : List Value), Vals ys its → ys.length ≤ sizeLine → ∀ (h' : Heap) (c' : Nat), (∀ b o', s.heap.get? b = some o' → h'.get? b = some o') →
      h'.get? s.heap.objs.size = some { cls := .type "list", dict := none, data := .seq its.toArray c', slots := #[] } → EP X pins σ Q (.ref s.heap.objs.size) { s with heap := h' } := fun its r' hz h' c' kp e =>
    ⟨.ref s.heap.objs.size, _, I.laid (t' := s.toks) kp (Nat.le_refl _) (show ObjOk X.prog X.w _ h' _ (.lst ys) from ⟨hz, its, c', r', e⟩), rfl, q _ (I.hok.fresh (Nat.le_refl _))⟩
  rcases hq with hq | hq
  · obtain ⟨its, r', pl, hz⟩ := I.list hq
    have hlen := r'.length
    obtain ⟨o, ho, hc, n, hd⟩ := pl.isList
    exact call_list_seq p (.inl rfl) ho hc hd (fun h' c' kp e => fin its r' hz h' c' kp e) (by simp only [List.size_toArray] <;> omega)
  · obtain ⟨its, r', pl, hz⟩ := I.tuple hq
    have hlen := r'.length
    obtain ⟨o, ho, hc, n, hd⟩ := pl
    exact call_list_seq p (.inr rfl) ho hc hd (fun h' c' kp e => fin its r' hz h' c' kp e) (by simp only [List.size_toArray] <;> omega)
theorem call_tuple_of : CallR X (.type "tuple") (fun xs H Q => ∃ p ys, xs = [.ref p] ∧ ((SqL X.K H p ys ∧ ∀ l, H l = none → Q (.ref l) (upd H l (.tup ys))) ∨ (SqT X.K H p ys ∧ Q (.ref p) H))) := by
  intro pins s σ H xs us Q I r h
  obtain ⟨p, ys, rfl, h⟩ := h
  obtain ⟨u, rfl, rx⟩ := vals1 r
  cases rx
  rcases h with ⟨hq, q⟩ | ⟨hq, q⟩
  · obtain ⟨its, r', pl, hz⟩ := I.list hq
    have hlen := r'.length
    refine call_tuple_list pl.isList (fun h' kp => ?_) (by simp only [List.size_toArray] <;> omega)
    have I1 : Inv X pins σ H { s with heap := h' } := I.kept (t' := s.toks) kp
    have I2 : Inv X pins σ (upd H h'.objs.size (.tup ys)) { s with heap := h'.push { cls := .type "tuple", data := .seq its.toArray } } :=
      I1.laid (t' := s.toks) (fun b o e => Heap.get?_push_of_some _ e) (Nat.le_refl _) (show ObjOk X.prog X.w _ _ _ (.tup ys) from ⟨hz, its, r', IsTup.new _ _⟩)
    exact ⟨.ref h'.objs.size, _, I2, rfl, q _ (I1.hok.fresh (Nat.le_refl _))⟩
  · obtain ⟨its, r', pl, hz⟩ := I.tuple hq
    exact call_tuple_same pl ⟨.ref p, H, I, rfl, q⟩
def tyV (K : PySem.W.Frag) (T : String) (x : V) (H : Hp) : Prop := match x with
  | .str _ => T = "str"
  | .int _ => T = "int"
  | .ref p => (T = "list" ∧ ∃ xs, SqL K H p xs) ∨ (T = "tuple" ∧ ∃ o, K.lookup p = some o ∧ o.cls = .type "tuple" ∧ o.dict = none) ∨
      (T = "dict" ∧ ((∃ kvs, H p = some (.dK kvs)) ∨ ∃ kvs, H p = some (.dT kvs))) ∨ (T = "set" ∧ ∃ S n, H p = some (.set S n))
  | _ => False
theorem tyV_is {pins : List (Addr × Obj)} {σ : St} {H : Hp} {s : Shared} {T : String} {x : V} {v : Value} (I : Inv X pins σ H s) (r : RelV x v) (ty : tyV X.K T x H) :
    s.TypeIs v T ∧ ∀ a, v = .ref a → ∃ ob, s.heap.get? a = some ob ∧ ob.dict = none := by
  cases x with
  | str z =>
    obtain ⟨t, rfl⟩ := r
    cases (show T = "str" from ty)
    exact ⟨typeIs_str s z t, fun _ e => nomatch e⟩
  | int i =>
    obtain ⟨t, rfl⟩ := r
    cases (show T = "int" from ty)
    exact ⟨typeIs_int s i t, fun _ e => nomatch e⟩
  | ref p =>
    cases r
    rcases ty with ⟨rfl, xs, hq⟩ | ⟨rfl, o, hk, hc, hd⟩ | ⟨rfl, hk⟩ | ⟨rfl, S, n, hk⟩
    · obtain ⟨its, _, pl, _⟩ := I.list hq
      refine ⟨pl.isList.typeIs, fun a e => ?_⟩
      cases e
      obtain ⟨o, n, e, c, hd, _⟩ := pl
      exact ⟨o, e, hd⟩
    · refine ⟨⟨o, I.kIn p o hk, hc⟩, fun a e => ?_⟩
      cases e
      exact ⟨o, I.kIn _ o hk, hd⟩
    · have z : ∃ o, s.heap.get? p = some o ∧ o.ExactDict := by
        rcases hk with ⟨kvs, hk⟩ | ⟨kvs, hk⟩
        · obtain ⟨_, _, _, _, o, _, _, e, ex, _⟩ := I.hok p _ hk
          exact ⟨o, e, ex⟩
        · obtain ⟨_, _, _, _, o, _, _, e, ex, _⟩ := I.hok p _ hk
          exact ⟨o, e, ex⟩
      obtain ⟨o, e, ex⟩ := z
      refine ⟨⟨o, e, ex.1⟩, fun a e2 => ?_⟩
      cases e2
      exact ⟨o, e, ex.2.1⟩
    · obtain ⟨o, _, _, _, e, ex, _⟩ := I.hok p _ hk
      refine ⟨⟨o, e, ex.1⟩, fun a e2 => ?_⟩
      cases e2
      exact ⟨o, e, ex.2.1⟩
  | _ => exact False.elim ty
def tBM0 (K : PySem.W.Frag) (T : String) (r : V → List V → Hp → VK → Prop) (to : TE) : TE := fun σ H Q => to σ H fun x H1 => tyV K T x H1 ∧ r x [] H1 Q
def tBM (K : PySem.W.Frag) (T : String) (r : V → List V → Hp → VK → Prop) (to : TE) (t : TA) : TE := fun σ H Q => to σ H fun x H1 => tyV K T x H1 ∧ t σ H1 fun xs H2 => r x xs H2 Q
variable {o e : Expr} {es : List Expr} {to : TE} {t : TA} {name : Str} {apos cpos : Pos} {T id : String} {r : V → List V → Hp → VK → Prop}
theorem pe_bm0 (pa : PlainAttrs T) (slot : Slot T name id) (hty : typeOf (.builtin id) = pure (.type "method_descriptor")) (hm : MtR X id r) (ho : PE X o to)
    (hbase : attributeBase o name X.env (eval o X.env) = eval o X.env := by rfl) (hline : (apos.endLine == cpos.line) = true := by rfl) : PE X (.Call (.Attribute o name apos) [] [] cpos) (tBM0 X.K T r to) := by
  refine ⟨?_⟩
  intro pins s σ H Q I h
  refine wpAny_Call_method0_late hbase hline (thn (ho pins s σ H _ I h) fun v s1 ⟨x, H1, I1, r1, ty, q1⟩ => ?_)
  obtain ⟨h1, h2⟩ := tyV_is I1 r1 ty
  exact ⟨T, id, pa, slot, hty, h1, h2, Calls.callWith_builtin rfl (PySem.evalArgs_none (hm pins s1 σ H1 x [] v [] Q I1 r1 .nil q1))⟩
theorem pe_bm (pa : PlainAttrs T) (slot : Slot T name id) (hty : typeOf (.builtin id) = pure (.type "method_descriptor")) (hm : MtR X id r) (ho : PE X o to) (ha : PA X (e :: es) t)
    (hbase : attributeBase o name X.env (eval o X.env) = eval o X.env := by rfl)
    (hfew : ((backTo cpos (starEach (e :: es) X.env)).all (fun x => !x.1) && (backToKw cpos (keywordEach [] X.env)).all (fun x => x.1.isSome)
      && decide ((e :: es).length + ([] : List Keyword).length + (if ([] : List Keyword).isEmpty then 0 else 1) < 30)) = true := by rfl)
    (hline : (apos.endLine == cpos.line) = true := by rfl) (hs : starEach (e :: es) X.env = (false, eval e X.env) :: starEach es X.env := by rfl) (hplain : (backTo cpos (starEach es X.env)).any (·.1) = false := by rfl) :
    PE X (.Call (.Attribute o name apos) (e :: es) [] cpos) (tBM X.K T r to t) := by
  refine ⟨?_⟩
  intro pins s σ H Q I h
  refine wpAny_Call_method_late hbase hfew hline rfl (thn (ho pins s σ H _ I h) fun v s1 ⟨x, H1, I1, r1, ty, q1⟩ => ?_)
  obtain ⟨h1, h2⟩ := tyV_is I1 r1 ty
  refine ⟨T, id, pa, slot, hty, h1, h2, ?_⟩
  have hA := ha cpos pins s1 σ H1 _ I1 q1
  rw [hs] at hA ⊢
  refine Calls.callWith_builtin (by show (false || (backTo cpos (starEach es X.env)).any (·.1)) = false; rw [hplain] <;> rfl) (Calls.evalArgs_plain ?_)
  exact thn hA fun us s2 ⟨vs, H2, I2, r2, q2⟩ => hm pins s2 σ H2 x vs v us Q I2 r1 r2 q2
/- xs.append(e), list.index on a module's tuple .. are MtR facts of 06m -/
end
end L2
namespace L2
open PySem PySem.Spec PyProof.Rows
def MtM (X : Cx) (id : String) (r : V → List V → Hp → VK → Prop) : Prop :=
  ∀ (pins : List (Addr × Obj)) (s : Shared) (σ : St) (H : Hp) (x : V) (xs : List V) (v : Value) (us : List Value) (Q : VK), Inv X pins σ H s → RelV x v → Vals xs us → r x xs H Q →
    wpAny (model X.prog X.w) X.A (call (.builtin id) (v :: us)) (EP X pins σ Q) X.xe s
theorem Vals.one : ∀ {x : V} {us : List Value}, Vals [x] us → ∃ u, us = [u] ∧ RelV x u
  | _, _, .cons r .nil => ⟨_, rfl, r⟩
theorem Vals.two : ∀ {x y : V} {us : List Value}, Vals [x, y] us → ∃ u v, us = [u, v] ∧ RelV x u ∧ RelV y v
  | _, _, _, .cons r (.cons q .nil) => ⟨_, _, rfl, r, q⟩
theorem Vals.zero : ∀ {us : List Value}, Vals [] us → us = []
  | _, .nil => rfl
theorem Vals.dropLast {xs : List V} {us : List Value} (h : Vals xs us) : Vals xs.dropLast us.dropLast := by
  induction h with
  | nil => exact .nil
  | cons r t ih =>
    cases t with
    | nil => exact .nil
    | cons q t' => exact .cons r ih
theorem Vals.eraseIdx : ∀ {xs : List V} {us : List Value} (i : Nat), Vals xs us → Vals (xs.eraseIdx i) (us.eraseIdx i)
  | _, _, _, .nil => .nil
  | _, _, 0, .cons _ t => t
  | _, _, i + 1, .cons r t => .cons r (Vals.eraseIdx i t)
theorem Vals.reverse {xs : List V} {us : List Value} (h : Vals xs us) : Vals xs.reverse us.reverse := by
  induction h with
  | nil => exact .nil
  | cons r t ih => rw [List.reverse_cons, List.reverse_cons]; exact Vals.append ih (.cons r .nil)
theorem Vals.rep {xs : List V} {us : List Value} (h : Vals xs us) : ∀ k : Nat, Vals (List.replicate k xs).flatten (List.replicate k us).flatten
  | 0 => .nil
  | k + 1 => by
    rw [List.replicate_succ, List.replicate_succ, List.flatten_cons, List.flatten_cons]
    exact Vals.append h (Vals.rep h k)
theorem foldl_rep (its : List Value) : ∀ (k : Nat) (acc : List Value),
    List.foldl (fun x1 x2 => x1 ++ x2) acc.toArray (List.replicate k its.toArray) = (acc ++ (List.replicate k its).flatten).toArray
  | 0, acc => by simp
  | k + 1, acc => by
    have e : acc.toArray ++ its.toArray = (acc ++ its).toArray := by simp
    have e2 : (acc ++ its) ++ (List.replicate k its).flatten = acc ++ (List.replicate (k + 1) its).flatten := by
      rw [List.replicate_succ, List.flatten_cons, List.append_assoc]
    rw [← e2, ← foldl_rep its k (acc ++ its), ← e, List.replicate_succ, List.foldl_cons]
section
variable {X : Cx} {pins : List (Addr × Obj)} {σ : St} {H : Hp} {s : Shared} {l b : Addr} {xs ys zs : List V}
theorem Inv.lset {its its' : List Value} {n : Nat} {f : Array Value → Array Value} {t' : Nat} (I : Inv X pins σ H s) (hH : H l = some (.lst xs))
    (e : s.heap.get? l = some { cls := .type "list", data := .seq its.toArray n }) (hf : f its.toArray = its'.toArray) (hv : Vals ys its') (hz : ys.length ≤ sizeLine) :
    Inv X pins σ (upd H l (.lst ys)) { s with heap := s.heap.update l (Obj.mapSeq f), toks := t' } := by
  have q := PySem.IsL.update e f
  rw [hf] at q
  refine I.write (x := l) (e := l) (by rw [hH]; exact trivial) (.inl rfl) (fun b' u hb hu => (Heap.get?_update_other s.heap (Obj.mapSeq f) (Ne.symm hb)).trans hu) ⟨_, q⟩ ?_
  exact ⟨hz, its', _, hv, q⟩
theorem Inv.lnew {its : List Value} {t' : Nat} (I : Inv X pins σ H s) (hv : Vals ys its) (hz : ys.length ≤ sizeLine) :
    Inv X pins σ (upd H s.heap.objs.size (.lst ys)) { s with heap := s.heap.push { cls := .type "list", data := .seq its.toArray }, toks := t' } :=
  I.laid (fun _ _ q => Heap.get?_push_of_some _ q) (Nat.le_refl _) ⟨hz, its, 0, hv, Heap.get?_push_size _ rfl⟩
theorem Inv.fresh (I : Inv X pins σ H s) : H s.heap.objs.size = none := I.hok.fresh (Nat.le_refl _)
theorem Inv.lstM (I : Inv X pins σ H s) (hH : H l = some (.lst xs)) : xs.length ≤ sizeLine ∧ ∃ (its : List Value) (n : Nat), Vals xs its ∧ xs.length = its.length ∧ s.heap.get? l = some { cls := .type "list", data := .seq its.toArray n } := by
  obtain ⟨z, its, n, r, e⟩ := I.hok l _ hH
  exact ⟨z, its, n, r, r.length, e⟩
theorem notLongL {n : Nat} (h : n ≤ sizeLine) : Builtin.List.listTooLong n = false := by
  unfold Builtin.List.listTooLong
  exact decide_eq_false (by omega)
end
section
variable {X : Cx}
def rAppend : V → List V → Hp → VK → Prop := fun x vs H Q => ∃ l xs y, x = .ref l ∧ vs = [y] ∧ H l = some (.lst xs) ∧ xs.length < sizeLine ∧ Q .non (upd H l (.lst (xs ++ [y])))
theorem mt_append : MtM X "list.append" rAppend := by
  intro pins s σ H x vs v us Q I rx rv h
  obtain ⟨l, xs, y, rfl, rfl, hH, hz, q⟩ := h
  cases rx
  obtain ⟨u, rfl, ru⟩ := rv.one
  obtain ⟨z, its, n, r, hl, e⟩ := I.lstM hH
  refine call_meets F.slot_list_append ⟨_, e, rfl⟩ F.entry_list_append (F.args_list_append_2 _ _) (PySem.list_append l its.toArray n u (by rw [List.size_toArray]; omega)) ⟨e, ?_⟩
  refine ⟨.non, _, I.lset (its' := its ++ [u]) hH e (by simp) (r.append (.cons ru .nil)) ?_, rfl, q⟩
  rw [List.length_append, List.length_singleton]
  omega
def rExtend : V → List V → Hp → VK → Prop := fun x vs H Q => ∃ l b xs zs, x = .ref l ∧ vs = [.ref b] ∧ H l = some (.lst xs) ∧ H b = some (.lst zs) ∧ xs.length + zs.length ≤ sizeLine ∧ Q .non (upd H l (.lst (xs ++ zs)))
def rPop : V → List V → Hp → VK → Prop := fun x vs H Q => ∃ l xs y, x = .ref l ∧ vs = [] ∧ H l = some (.lst xs) ∧ xs[xs.length - 1]? = some y ∧ Q y (upd H l (.lst xs.dropLast))
def rPopAt : V → List V → Hp → VK → Prop := fun x vs H Q => ∃ l xs i k y, x = .ref l ∧ vs = [.int i] ∧ H l = some (.lst xs) ∧ -(2 ^ 63) ≤ i ∧ i < 2 ^ 63 ∧ seqIndex? i xs.length = some k ∧ xs[k]? = some y ∧ Q y (upd H l (.lst (xs.eraseIdx k)))
def rReverse : V → List V → Hp → VK → Prop := fun x vs H Q => ∃ l xs, x = .ref l ∧ vs = [] ∧ H l = some (.lst xs) ∧ Q .non (upd H l (.lst xs.reverse))
def rClear : V → List V → Hp → VK → Prop := fun x vs H Q => ∃ l xs, x = .ref l ∧ vs = [] ∧ H l = some (.lst xs) ∧ Q .non (upd H l (.lst []))
theorem mt_clear : MtM X "list.clear" rClear := by
  intro pins s σ H x vs v us Q I rx rv h
  obtain ⟨l, xs, rfl, rfl, hH, q⟩ := h
  cases rx
  have hus := rv.zero
  subst hus
  obtain ⟨z, its, n, r, hl, e⟩ := I.lstM hH
  refine call_meets F.slot_list_clear ⟨_, e, rfl⟩ F.entry_list_clear (F.args_list_clear_1 _) (AutoSeq1.list_clear_list_0 l its.toArray n (by rw [List.size_toArray]; omega)) ⟨e, ?_⟩
  exact ⟨.non, _, I.lset (its' := []) (ys := []) hH e rfl .nil (Nat.zero_le _), rfl, q⟩
def rCat : R2 := fun x y H Q => ∃ l b xs zs, x = .ref l ∧ y = .ref b ∧ H l = some (.lst xs) ∧ H b = some (.lst zs) ∧ xs.length + zs.length ≤ sizeLine ∧ ∀ p, H p = none → Q (.ref p) (upd H p (.lst (xs ++ zs)))
def rRep : R2 := fun x y H Q => ∃ l k xs, x = .ref l ∧ y = .int k ∧ H l = some (.lst xs) ∧ -(2 ^ 63) ≤ k ∧ k < 2 ^ 63 ∧ xs.length * k.toNat ≤ sizeLine ∧
  ∀ p, H p = none → Q (.ref p) (upd H p (.lst (List.replicate k.toNat xs).flatten))
theorem len_rep {α : Type} (xs : List α) (k : Nat) : (List.replicate k xs).flatten.length = k * xs.length := by
  induction k with
  | zero => simp
  | succ k ih => rw [List.replicate_succ, List.flatten_cons, List.length_append, ih, Nat.succ_mul, Nat.add_comm]
theorem op_rep : OpR X (binaryOp .Mult) rRep := by
  intro pins s σ H x y v u Q I rx ry h
  obtain ⟨l, k, xs, rfl, rfl, hH, h1, h2, hz, q⟩ := h
  cases rx
  obtain ⟨t, rfl⟩ := ry
  obtain ⟨z, its, n, r, hl, e⟩ := I.lstM hH
  have hlen : its.toArray.size * k.toNat ≤ sizeLine := by rw [List.size_toArray, ← hl]; exact hz
  have hcap : ¬ its.toArray.size * k.toNat > (2 ^ 63 - 1) / 8 := by
    have : (sizeLine : Nat) ≤ (2 ^ 63 - 1) / 8 := by decide
    omega
  have hfit : ¬ (!Builtin.List.listFitsIndex k) = true := by
    rw [fitsIndex_both h1 h2]
    exact Bool.false_ne_true
  have hlong : ¬ Builtin.List.listTooLong (its.toArray.size * k.toNat) = true := by
    rw [notLongL hlen]
    exact Bool.false_ne_true
  have hnew : List.foldl (fun x1 x2 => x1 ++ x2) #[] (List.replicate (if its.toArray.isEmpty = true then 0 else k.toNat) its.toArray) = (List.replicate k.toNat its).flatten.toArray := by
    have f0 : ∀ m : Nat, List.foldl (fun x1 x2 => x1 ++ x2) #[] (List.replicate m its.toArray) = (List.replicate m its).flatten.toArray := fun m => by
      have := foldl_rep its m []
      rw [List.nil_append] at this
      exact this
    rw [f0]
    cases its with
    | nil => simp
    | cons a r' => rw [if_neg (by simp)]
  refine wpAny_binaryOp_repeat_ref (T := "list") (U := "int") (by decide) ⟨_, e, rfl⟩ (fun s' => typeIs_int s' k t) noFill_list_mul F.fills_int_mul F.slot_int_rmul repeat_list F.slot_int_index.lookup
    (call_meets F.slot_int_rmul (typeIs_int s k t) F.entry_int_rmul (F.args_int_rmul_2 _ _) (int___rmul___int_list k t l its.toArray n)
      ⟨e, rfl, ⟨_, e, rfl⟩, call_meets F.slot_list_mul ⟨_, e, rfl⟩ F.entry_list_mul (F.args_list_mul_2 _ _) (AutoListH.list___mul___list_int_3 l its.toArray n k t hfit hcap hlong) ⟨e, ?_⟩⟩)
  rw [hnew]
  exact ⟨.ref _, _, I.lnew (t' := s.toks) (r.rep k.toNat) (by rw [len_rep, Nat.mul_comm]; exact hz), rfl, q _ I.fresh⟩
end
section
variable {prog : Program} {w : World} {A : Around} {E : Value → Shared → Prop} {s : Shared}
end
section
variable {X : Cx}
end
end L2
namespace L2
open PySem PySem.Spec PyProof.Rows
theorem Vals.ints : ∀ {ns : List Int} {us : List Value}, Vals (ns.map V.int) us → IntsAre us ns
  | [], us, h => by
    rw [List.map_nil] at h
    cases h
    exact IntsAre.nil
  | n :: ns, us, h => by
    rw [List.map_cons] at h
    cases h with
    | cons r t =>
      obtain ⟨k, rfl⟩ := r
      exact IntsAre.cons n k (Vals.ints t)
theorem vals_of_ints : ∀ {us : List Value} {ns : List Int}, IntsAre us ns → Vals (ns.map V.int) us
  | _, _, .nil => by rw [List.map_nil]; exact Paired.nil
  | _, _, .cons n t h => by rw [List.map_cons]; exact Paired.cons (show RelV (V.int n) (Value.int n t) from ⟨t, rfl⟩) (vals_of_ints h)
theorem Vals.strs : ∀ {xs : List Str} {us : List Value}, Vals (xs.map V.str) us → StrsAre us xs
  | [], us, h => by
    rw [List.map_nil] at h
    cases h
    exact StrsAre.nil
  | x :: xs, us, h => by
    rw [List.map_cons] at h
    cases h with
    | cons r t =>
      obtain ⟨k, rfl⟩ := r
      exact StrsAre.cons x k (Vals.strs t)
theorem Vals.bls : ∀ {bs : List Bool} {us : List Value}, Vals (bs.map V.bl) us → us = bs.map Value.bool
  | [], us, h => by
    rw [List.map_nil] at h
    cases h
    rfl
  | b :: bs, us, h => by
    rw [List.map_cons] at h
    cases h with
    | cons r t =>
      cases r
      rw [Vals.bls t, List.map_cons]
theorem Vals.ref1 {a : Addr} {us : List Value} (r : Vals [V.ref a] us) : us = [Value.ref a] := by
  cases r with
  | cons r t =>
    cases t
    cases r
    rfl
section
variable {prog : Program} {w : World} {A : Around} {E : Value → Shared → Prop} {s : Shared} {l : Addr} {its : List Value} {ns : List Int} {Q : Value → Shared → Prop}
theorem sum_raw (hh : A.handled = none) (hl : s.heap.IsList l its.toArray) (hi : IntsAre its ns)
    (h : ∀ h' tk t', (∀ b o, s.heap.get? b = some o → h'.get? b = some o) → Q (.int ns.sum t') { s with heap := h', toks := tk }) : wpAny (model prog w) A (call (.builtin "sum") [.ref l]) Q E s := by
  obtain ⟨xs, e⟩ := hi.allInts.items
  have hn : numsOf (intItems xs).toList = ns := by rw [← e]; exact hi.numsOf
  rw [nums_intItems] at hn
  rw [e] at hl
  refine PySem.sum_intListG hh hl fun h' tk t' hk => ?_
  have := h h' tk t' hk
  rw [preSum_eq, List.take_of_length_le (by simp), hn]; exact this
end
section
variable {X : Cx}
def rSum (K : PySem.W.Frag) : List V → Hp → VK → Prop := fun vs H Q => ∃ (a : Addr) (ns : List Int), vs = [V.ref a] ∧ SqL K H a (ns.map V.int) ∧ Q (.int ns.sum) H
def rMax (K : PySem.W.Frag) : List V → Hp → VK → Prop := fun vs H Q => ∃ (a : Addr) (ns : List Int), vs = [V.ref a] ∧ SqL K H a (ns.map V.int) ∧ 0 < ns.length ∧ ∀ m, m ∈ ns → (∀ y, y ∈ ns → y ≤ m) → Q (.int m) H
def rMin (K : PySem.W.Frag) : List V → Hp → VK → Prop := fun vs H Q => ∃ (a : Addr) (ns : List Int), vs = [V.ref a] ∧ SqL K H a (ns.map V.int) ∧ 0 < ns.length ∧ ∀ m, m ∈ ns → (∀ y, y ∈ ns → m ≤ y) → Q (.int m) H
theorem cr_sum (hc : X.calm = true) : CallR X (.builtin "sum") (rSum X.K) := by
  intro pins s σ H vs us Q I r h
  obtain ⟨a, ns, rfl, hs, q⟩ := h
  obtain ⟨its, rv, hl, _⟩ := I.list hs
  rw [Vals.ref1 r]
  exact sum_raw (I.ok.hd hc) hl.isList rv.ints fun h' tk t' hk => ⟨.int _, H, I.kept hk, ⟨_, rfl⟩, q⟩
def rSorted (K : PySem.W.Frag) : List V → Hp → VK → Prop := fun vs H Q => ∃ (a : Addr) (ns : List Int), vs = [V.ref a] ∧ SqL K H a (ns.map V.int) ∧ ns.length < 64 ∧
  ∀ (ns' : List Int) (p : Addr), ns'.Perm ns → ns'.Pairwise (· ≤ ·) → H p = none → Q (.ref p) (upd H p (.lst (ns'.map V.int)))
def rSortedS (K : PySem.W.Frag) : List V → Hp → VK → Prop := fun vs H Q => ∃ (a : Addr) (xs : List Str), vs = [V.ref a] ∧ SqL K H a (xs.map V.str) ∧ xs.length < 64 ∧
  ∀ (ys : List Str) (p : Addr), ys.Perm xs → sortedS ys = true → H p = none → Q (.ref p) (upd H p (.lst (ys.map V.str)))
def rSort : V → List V → Hp → VK → Prop := fun x xs H Q => ∃ (a : Addr) (ns : List Int), x = V.ref a ∧ xs = [] ∧ H a = some (.lst (ns.map V.int)) ∧ ns.length < 64 ∧
  ∀ ns' : List Int, ns'.Perm ns → ns'.Pairwise (· ≤ ·) → Q .non (upd H a (.lst (ns'.map V.int)))
end
section
variable {X : Cx}
def rIndex (K : PySem.W.Frag) : V → List V → Hp → VK → Prop := fun x xs H Q => ∃ (a : Addr) (ys : List V) (y : V) (j : Nat) (z : V), x = V.ref a ∧ xs = [y] ∧ SqL K H a ys ∧ flatV y = true ∧ ys.all flatV = true ∧ ys[j]? = some z ∧ eqV z y = true ∧
  (∀ (m : Nat) (z' : V), m < j → ys[m]? = some z' → eqV z' y = false) ∧ Q (.int (j : Nat)) H
end
section
variable {X : Cx}
end
theorem iter_any {prog : Program} {w : World} {A : Around} {E : Value → Shared → Prop} {s : Shared} {l : Addr} {items : Array Value} {Q : Value → Shared → Prop} (hl : s.heap.IsList l items)
    (h : ∀ s₂ : Shared, s₂ = { s with heap := s.heap.push { cls := .type "list_iterator", data := .fields #[.ref l, .int 0 0] } } →
      (s₂.heap.IsListIter s.heap.objs.size l 0 ∧ s₂.heap.IsList l items) → l ≠ s.heap.objs.size → Q (.ref s.heap.objs.size) s₂) : wpAny (model prog w) A (pyIter (.ref l)) Q E s := by
  have hlt : l < s.heap.objs.size := by obtain ⟨_, e, _⟩ := hl; exact Heap.lt_size e
  exact wpAny_pyIter_list hl (h _ rfl ⟨⟨_, Heap.get?_push_size _ rfl, rfl, rfl⟩, hl.push _⟩ (Nat.ne_of_lt hlt))
theorem truth_bools {prog : Program} {w : World} {A : Around} {bs : List Bool} {its : List Value} (e : its = bs.map Value.bool) :
    TruthOf prog w A (fun i v => its.toArray[i]? = some v) (fun i => bs.getD i false) := fun i v s Q E hv hq => by
  have hv' : its[i]? = some v := by simpa using hv
  rw [e, List.getElem?_map] at hv'
  obtain ⟨b, hb, rfl⟩ := Option.map_eq_some_iff.mp hv'
  have hg : bs.getD i false = b := by rw [List.getD_eq_getElem?_getD, hb] <;> rfl
  have hq' : Q (bs.getD i false) s := hq
  rw [hg] at hq'
  exact wpAny_truthy_bool hq'
theorem all_range : ∀ bs : List Bool, (List.range bs.length).all (fun i => bs.getD i false) = bs.all id
  | [] => rfl
  | b :: bs => by
    rw [List.length_cons, List.range_succ_eq_map, List.all_cons, List.all_map, List.all_cons, ← all_range bs]
    all_goals rfl
section
variable {X : Cx}
def rAny (K : PySem.W.Frag) : List V → Hp → VK → Prop := fun vs H Q => ∃ (a : Addr) (bs : List Bool), vs = [V.ref a] ∧ SqL K H a (bs.map V.bl) ∧ Q (.bl (bs.any id)) H
def rAll (K : PySem.W.Frag) : List V → Hp → VK → Prop := fun vs H Q => ∃ (a : Addr) (bs : List Bool), vs = [V.ref a] ∧ SqL K H a (bs.map V.bl) ∧ Q (.bl (bs.all id)) H
theorem cr_all (hc : X.calm = true) : CallR X (.builtin "all") (rAll X.K) := by
  intro pins s σ H vs us Q I r h
  obtain ⟨a, bs, rfl, hs, q⟩ := h
  obtain ⟨its, rv, hl, _⟩ := I.list hs
  rw [Vals.ref1 r]
  have hb := rv.bls
  refine call_all_walk (iter_any hl.isList fun s₂ e2 st hne => ?_)
  subst e2
  refine ⟨_, _, _, _, _, _, _, rfl, Walks.list (A := X.A.in1) (I.ok.hd hc) _ a hne its.toArray, st, truth_bools hb, fun h' tk hk => ?_⟩
  refine ⟨.bl _, H, I.kept fun b o eo => hk b o (fun hmem => ?_) (Heap.get?_push_of_some _ eo), ?_, q⟩
  · rcases List.mem_cons.mp hmem with e1 | hmem
    · exact absurd (e1 ▸ Heap.lt_size eo) (Nat.lt_irrefl _)
    · cases hmem
  · show Value.bool _ = Value.bool _
    rw [← all_range, hb, List.size_toArray, List.length_map]
end
mutual
inductive Dp (K : PySem.W.Frag) (H : Hp) : V → PyData → Prop
  | non : Dp K H .non .none
  | bl (b : Bool) : Dp K H (.bl b) (.bool b)
  | int (i : Int) : Dp K H (.int i) (.int i)
  | str (x : Str) : Dp K H (.str x) (.str x)
  | lst {a : Addr} {xs : List V} {ds : List PyData} : SqL K H a xs → DpAll K H xs ds → Dp K H (.ref a) (.list ds)
  | tup {a : Addr} {xs : List V} {ds : List PyData} : SqT K H a xs → DpAll K H xs ds → Dp K H (.ref a) (.tuple ds)
inductive DpAll (K : PySem.W.Frag) (H : Hp) : List V → List PyData → Prop
  | nil : DpAll K H [] []
  | cons {v : V} {vs : List V} {d : PyData} {ds : List PyData} : Dp K H v d → DpAll K H vs ds → DpAll K H (v :: vs) (d :: ds)
end
section
variable {X : Cx} {pins : List (Addr × Obj)} {σ : St} {H : Hp} {s : Shared}
mutual
theorem Dp.reads (I : Inv X pins σ H s) : ∀ (d : PyData) (v : V) (u : Value), Dp X.K H v d → RelV v u → ∃ as, Reads s.heap u d as
  | .none, _, _, h, r => by
    cases h
    cases r
    exact ⟨_, Reads.none⟩
  | .bool b, _, _, h, r => by
    cases h
    cases r
    exact ⟨_, Reads.bool b⟩
  | .int i, _, _, h, r => by
    cases h
    obtain ⟨t, rfl⟩ := r
    exact ⟨_, Reads.int i t⟩
  | .str x, _, _, h, r => by
    cases h
    obtain ⟨t, rfl⟩ := r
    exact ⟨_, Reads.str x t⟩
  | .list ds, _, _, h, r => by
    cases h with
    | lst hs ha =>
      cases r
      obtain ⟨its, rv, ⟨o, n, ho, hc, _, hd⟩, _⟩ := I.list hs
      obtain ⟨as, hr⟩ := Dp.readsAll I ds _ its ha rv
      exact ⟨_, Reads.list ho hc hd hr⟩
  | .tuple ds, _, _, h, r => by
    cases h with
    | tup hs ha =>
      cases r
      obtain ⟨its, rv, ⟨o, ho, hc, n, hd⟩, _⟩ := I.tuple hs
      obtain ⟨as, hr⟩ := Dp.readsAll I ds _ its ha rv
      exact ⟨_, Reads.tuple ho hc hd hr⟩
  | .dict _, _, _, h, _ => by cases h
theorem Dp.readsAll (I : Inv X pins σ H s) : ∀ (ds : List PyData) (vs : List V) (us : List Value), DpAll X.K H vs ds → Vals vs us → ∃ as, ReadsAll s.heap us ds as
  | [], _, _, h, r => by
    cases h
    cases r
    exact ⟨_, ReadsAll.nil⟩
  | d :: ds, _, _, h, r => by
    cases h with
    | cons h1 h2 =>
      cases r with
      | cons r1 r2 =>
        obtain ⟨as, q1⟩ := Dp.reads I d _ _ h1 r1
        obtain ⟨bs, q2⟩ := Dp.readsAll I ds _ _ h2 r2
        exact ⟨_, ReadsAll.cons q1 q2⟩
end
end
section
variable {X : Cx}
def rEqD (K : PySem.W.Frag) : R2 := fun x y H Q => ∃ d e, Dp K H x d ∧ Dp K H y e ∧ SeqAt.shaped d = true ∧ SeqAt.shaped e = true ∧ Q (.bl (PyData.eqv d e)) H
def rNeD (K : PySem.W.Frag) : R2 := fun x y H Q => ∃ d e, Dp K H x d ∧ Dp K H y e ∧ SeqAt.shaped d = true ∧ SeqAt.shaped e = true ∧ Q (.bl (!PyData.eqv d e)) H
theorem op_eqD (hu : X.A.units + 64 < cLine) : OpR X (compareOp .Eq) (rEqD X.K) := by
  intro pins s σ H x y v u Q I rx ry h
  obtain ⟨d, e, hd, he, sd, se, q⟩ := h
  obtain ⟨as, r1⟩ := Dp.reads I d x v hd rx
  obtain ⟨bs, r2⟩ := Dp.reads I e y u he ry
  exact SeqAt.compareEq_shaped r1 r2 sd se hu ⟨.bl _, H, I, rfl, q⟩
theorem op_neD (hu : X.A.units + 64 < cLine) : OpR X (compareOp .NotEq) (rNeD X.K) := by
  intro pins s σ H x y v u Q I rx ry h
  obtain ⟨d, e, hd, he, sd, se, q⟩ := h
  obtain ⟨as, r1⟩ := Dp.reads I d x v hd rx
  obtain ⟨bs, r2⟩ := Dp.reads I e y u he ry
  exact SeqAt.compareNe_shaped r1 r2 sd se hu ⟨.bl _, H, I, rfl, q⟩
end
end L2
namespace L2
open PySem PySem.Spec PyProof.Rows
abbrev CellAt (h : Heap) (c : Addr) (v : Option Value) : Prop := h.IsCell c v
def relS (scope sc : Scope) : Scope :=
  { scope with names := scope.names.map fun (n, k) => if (k == .free && sc.kind == .function && sc.names.lookup n == some .cell) then (n, .cell) else (n, k) }
def cloFrom (cells : List (Str × Addr)) : List (Str × NameKind) → List (Str × Addr) → List (Str × Addr)
  | [], acc => acc
  | (n, k) :: r, acc => if k == .free then cloFrom cells r ((n, (cells.lookup n).getD 0) :: acc) else cloFrom cells r acc
theorem closure_loop (env : Env) (f : Str × NameKind → List (Str × Addr) → Sem (ForInStep (List (Str × Addr))))
    (hf : ∀ n k c, f (n, k) c = if k == .free then (do let a ← cellOf env n; pure (.yield ((n, a) :: c))) else pure (.yield c)) :
    ∀ (names : List (Str × NameKind)) (acc : List (Str × Addr)), (∀ y ∈ names, y.2 = .free → ∃ c, env.cells.lookup y.1 = some c) → forIn names acc f = pure (cloFrom env.cells names acc)
  | [], acc, _ => by rw [List.forIn_nil]; rfl
  | (n, k) :: r, acc, h => by
    rw [List.forIn_cons, hf]
    have ih := fun acc => closure_loop env f hf r acc fun y hy => h y (List.mem_cons_of_mem _ hy)
    unfold cloFrom
    by_cases hk : (k == NameKind.free) = true
    · rw [if_pos hk, if_pos hk]
      obtain ⟨c, hc⟩ := h (n, k) List.mem_cons_self (by simpa using hk)
      have e : cellOf env n = pure c := by unfold cellOf; rw [hc]
      rw [e]
      have e2 : (env.cells.lookup n).getD 0 = c := by rw [hc]; rfl
      rw [e2]
      exact ih _
    · rw [if_neg hk, if_neg hk]
      exact ih _
theorem closure_ok {scope : Scope} {env : Env} (h : ∀ y ∈ scope.names, y.2 = .free → ∃ c, env.cells.lookup y.1 = some c) : closureFor scope env = pure (cloFrom env.cells scope.names []) := by
  simp only [closureFor]
  rw [closure_loop env _ (fun n k c => rfl) scope.names [] h]
  rfl
theorem mem_lookup {α : Type} : ∀ {l : List (Str × α)} {n : Str} {c : α}, (n, c) ∈ l → ∃ c', l.lookup n = some c'
  | (k, v) :: r, n, c, h => by
    rw [List.lookup_cons]
    cases hb : n == k with
    | true => exact ⟨_, rfl⟩
    | false =>
      rcases List.mem_cons.mp h with e | h
      · cases e; simp at hb
      · exact mem_lookup h
theorem cloFrom_mem {cells : List (Str × Addr)} : ∀ {names : List (Str × NameKind)} {acc : List (Str × Addr)} {n : Str} {c : Addr}, (n, c) ∈ cloFrom cells names acc → (n, c) ∈ acc ∨ ((n, .free) ∈ names ∧ c = (cells.lookup n).getD 0)
  | [], _, _, _, h => .inl h
  | (m, k) :: r, acc, n, c, h => by
    unfold cloFrom at h
    split at h
    · rename_i hk
      have hk : k = .free := by simpa using hk
      rcases cloFrom_mem h with h | ⟨h1, h2⟩
      · rcases List.mem_cons.mp h with e | h
        · cases e; exact .inr ⟨hk ▸ List.mem_cons_self, rfl⟩
        · exact .inl h
      · exact .inr ⟨List.mem_cons_of_mem _ h1, h2⟩
    · rcases cloFrom_mem h with h | ⟨h1, h2⟩
      · exact .inl h
      · exact .inr ⟨List.mem_cons_of_mem _ h1, h2⟩
theorem cloFrom_acc {cells : List (Str × Addr)} : ∀ {names : List (Str × NameKind)} {acc : List (Str × Addr)} {p : Str × Addr}, p ∈ acc → p ∈ cloFrom cells names acc
  | [], _, _, h => h
  | (m, k) :: r, acc, p, h => by
    unfold cloFrom
    split
    · exact cloFrom_acc (List.mem_cons_of_mem _ h)
    · exact cloFrom_acc h
theorem cloFrom_has {cells : List (Str × Addr)} : ∀ {names : List (Str × NameKind)} {acc : List (Str × Addr)} {n : Str}, (n, .free) ∈ names → (n, (cells.lookup n).getD 0) ∈ cloFrom cells names acc
  | (m, k) :: r, acc, n, h => by
    unfold cloFrom
    rcases List.mem_cons.mp h with e | h
    · cases e
      exact cloFrom_acc List.mem_cons_self
    · split
      · exact cloFrom_has h
      · exact cloFrom_has h
theorem cells_mem : ∀ {names : List (Str × NameKind)} {h : Heap} {acc : List (Str × Addr)} {x : Str} {c : Addr}, (x, c) ∈ cellsFrom h.objs.size names acc →
    (x, c) ∈ acc ∨ ((x, .cell) ∈ names ∧ h.objs.size ≤ c ∧ CellAt (pushCells h names) c none)
  | [], _, _, _, _, h => .inl h
  | (n, k) :: r, h, acc, x, c, hm => by
    unfold cellsFrom at hm
    unfold pushCells
    split at hm
    · rename_i hk
      rw [if_pos hk]
      have hk : k = .cell := by simpa using hk
      rw [← Heap.size_push h { cls := .type "cell", data := .cell none }] at hm
      rcases cells_mem hm with hm | ⟨h1, h2, h3⟩
      · rcases List.mem_cons.mp hm with e | hm
        · cases e
          exact .inr ⟨hk ▸ List.mem_cons_self, Nat.le_refl _, _, pushCells_keeps r _ _ _ (Heap.get?_push_size _ rfl), rfl⟩
        · exact .inl hm
      · rw [Heap.size_push] at h2
        exact .inr ⟨List.mem_cons_of_mem _ h1, Nat.le_of_succ_le h2, h3⟩
    · rename_i hk
      rw [if_neg hk]
      rcases cells_mem hm with hm | ⟨h1, h2, h3⟩
      · exact .inl hm
      · exact .inr ⟨List.mem_cons_of_mem _ h1, h2, h3⟩
theorem cells_acc : ∀ {names : List (Str × NameKind)} {n : Nat} {acc : List (Str × Addr)} {p : Str × Addr}, p ∈ acc → p ∈ cellsFrom n names acc
  | [], _, _, _, h => h
  | (m, k) :: r, n, acc, p, h => by
    unfold cellsFrom
    split
    · exact cells_acc (List.mem_cons_of_mem _ h)
    · exact cells_acc h
theorem cells_has : ∀ {names : List (Str × NameKind)} {n : Nat} {acc : List (Str × Addr)} {x : Str}, (x, .cell) ∈ names → ∃ c, (x, c) ∈ cellsFrom n names acc
  | (m, k) :: r, n, acc, x, h => by
    unfold cellsFrom
    rcases List.mem_cons.mp h with e | h
    · cases e
      exact ⟨n, cells_acc List.mem_cons_self⟩
    · split
      · exact cells_has h
      · exact cells_has h
theorem cells_inj : ∀ {names : List (Str × NameKind)} {h : Heap} {acc : List (Str × Addr)} {x y : Str} {c : Addr}, (∀ p ∈ acc, p.2 < h.objs.size) → (∀ x y c, (x, c) ∈ acc → (y, c) ∈ acc → x = y) →
    (x, c) ∈ cellsFrom h.objs.size names acc → (y, c) ∈ cellsFrom h.objs.size names acc → x = y
  | [], _, _, _, _, _, _, hi, h1, h2 => hi _ _ _ h1 h2
  | (n, k) :: r, h, acc, x, y, c, hl, hi, h1, h2 => by
    unfold cellsFrom at h1 h2
    split at h1
    · rename_i hk
      rw [if_pos hk] at h2
      rw [← Heap.size_push h { cls := .type "cell", data := .cell none }] at h1 h2
      refine cells_inj (h := h.push _) (fun p hp => ?_) (fun x y c a b => ?_) h1 h2
      · rw [Heap.size_push]
        rcases List.mem_cons.mp hp with rfl | hp
        · exact Nat.lt_succ_self _
        · exact Nat.lt_succ_of_lt (hl p hp)
      · rcases List.mem_cons.mp a with e | a <;> rcases List.mem_cons.mp b with e' | b
        · cases e; cases e'; rfl
        · cases e; exact absurd (hl _ b) (Nat.lt_irrefl _)
        · cases e'; exact absurd (hl _ a) (Nat.lt_irrefl _)
        · exact hi _ _ _ a b
    · rename_i hk
      rw [if_neg hk] at h2
      exact cells_inj hl hi h1 h2
theorem newEnv_comp {M : Model} {A : Around} {E : Value → Shared → Prop} {s : Shared} {scope : Scope} {globals : Addr} {closure : List (Str × Addr)} {qual : Str} {func : Option Addr} {code : Value} {around : Env} {builtins : Addr} {Q : Env → Shared → Prop}
    (h : Q (newEnv scope s.heap.objs.size globals (cellsFrom (s.heap.objs.size + 1) scope.names closure) qual func code (some around) builtins)
      { s with heap := pushCells (s.heap.push { cls := .type "dict", data := .dict #[] }) scope.names }) :
    wpAny M A (newFunctionEnv scope globals closure [] qual func code (some around) builtins) Q E s := by
  simp only [newFunctionEnv, Option.isSome_some, if_true]
  refine wpAny_bind (wpAny_alloc ?_)
  refine wpAny_bind (wpAny_layCells _ (fun n k c => rfl) scope.names closure _ _ ?_)
  rw [show ({ s with heap := s.heap.push { cls := .type "dict", data := .dict #[] } } : Shared).heap.objs.size = s.heap.objs.size + 1 from Heap.size_push ..]
  rw [List.forIn_nil]
  exact wpAny_bind (wpAny_pure (wpAny_pure h))
theorem lookup_relS {sc : Scope} : ∀ {names : List (Str × NameKind)} {x : Str} {k : NameKind},
    (names.map fun (n, k) => if (k == NameKind.free && sc.kind == .function && sc.names.lookup n == some .cell) then (n, NameKind.cell) else (n, k)).lookup x = some k →
    ∃ k', names.lookup x = some k' ∧ (k = k' ∨ (k' = .free ∧ k = .cell))
  | [], _, _, h => by simp at h
  | (n, k₀) :: r, x, k, h => by
    have ih := @lookup_relS sc r x k
    have h' : List.lookup x ((if (k₀ == NameKind.free && sc.kind == .function && sc.names.lookup n == some .cell) = true then (n, NameKind.cell) else (n, k₀)) :: (r.map _)) = some k := h
    cases hx : x == n with
    | true =>
      simp only [List.lookup_cons, hx]
      by_cases hc : (k₀ == NameKind.free && sc.kind == .function && sc.names.lookup n == some .cell) = true
      · rw [if_pos hc] at h'
        simp only [List.lookup_cons, hx] at h'
        cases h'
        simp only [Bool.and_eq_true, beq_iff_eq] at hc
        exact ⟨k₀, rfl, .inr ⟨hc.1.1, rfl⟩⟩
      · rw [if_neg hc] at h'
        simp only [List.lookup_cons, hx] at h'
        cases h'
        exact ⟨_, rfl, .inl rfl⟩
    | false =>
      simp only [List.lookup_cons, hx]
      by_cases hc : (k₀ == NameKind.free && sc.kind == .function && sc.names.lookup n == some .cell) = true
      · rw [if_pos hc] at h'
        simp only [List.lookup_cons, hx] at h'
        exact ih h'
      · rw [if_neg hc] at h'
        simp only [List.lookup_cons, hx] at h'
        exact ih h'
structure BlkOk (N : List Str) (sc scope : Scope) (own : List (Str × Nat)) : Prop where
  kind : scope.kind = .function
  uniq : ∀ y ∈ scope.names, scope.names.lookup y.1 = some y.2
  ix : ∀ p ∈ own, N[p.2]? = some p.1
  free : ∀ y ∈ scope.names, y.2 = .free → sc.names.lookup y.1 = some .cell ∨ sc.names.lookup y.1 = some .free
  own : ∀ y ∈ scope.names, y.2 = .local ∨ y.2 = .cell → y.1 ∈ own.map (·.1) ∨ y.1 ∉ N
def wipe (σ : St) : List Nat → St
  | [] => σ
  | v :: vs => (wipe σ vs).set v none
theorem wipe_length (σ : St) : ∀ vs : List Nat, (wipe σ vs).length = σ.length
  | [] => rfl
  | v :: vs => by unfold wipe; rw [List.length_set, wipe_length σ vs]
theorem wipe_some {σ : St} {i : Nat} {x : V} : ∀ {vs : List Nat}, (wipe σ vs)[i]? = some (some x) → σ[i]? = some (some x) ∧ i ∉ vs
  | [], h => ⟨h, by simp⟩
  | v :: vs, h => by
    unfold wipe at h
    by_cases hi : v = i
    · subst hi
      by_cases hv : v < (wipe σ vs).length
      · rw [List.getElem?_set_self hv] at h; cases h
      · rw [List.getElem?_eq_none (by simpa using hv)] at h; cases h
    · rw [List.getElem?_set_ne hi] at h
      obtain ⟨h1, h2⟩ := wipe_some h
      exact ⟨h1, by simp only [List.mem_cons, not_or]; exact ⟨fun e => hi e.symm, h2⟩⟩
abbrev Cx.blk (X : Cx) (s : Shared) (H : Hp) (scope : Scope) (cenv : Env) (fp : List Addr) : Cx := { X with s_0 := s, H_0 := H, env := cenv, outer := X.stack, ex := fp, fn := fun x => scope.names.lookup x == some .cell, pn := [], xe := fun _ _ => False }
section
variable {X : Cx} {pins : List (Addr × Obj)} {σ : St} {H : Hp} {s : Shared}
theorem block_start {scope : Scope} {own : List (Str × Nat)} {fp : List Addr} (I : Inv X pins σ H s) (ok : BlkOk X.N X.env.scope scope own) (hN : X.N.Nodup) (hfp : ∀ b ∈ fp, FpOk X pins H b ∧ b < s.heap.objs.size) :
    Inv (X.blk s H scope (compEnvC scope (cellsFrom (s.heap.objs.size + 1) scope.names (cloFrom X.env.cells scope.names [])) s.heap.objs.size X.env) fp) [] (wipe σ (own.map (·.2))) H { s with heap := pushCells (s.heap.push { cls := .type "dict", data := .dict #[] }) scope.names } := by
  have hfree : ∀ y ∈ scope.names, y.2 = .free → ∃ c, X.env.cells.lookup y.1 = some c := fun y hy e => by
    rcases ok.free y hy e with k | k
    · exact I.ok.has _ (.inl k)
    · exact I.ok.has _ (.inr k)
  generalize hcenv : compEnvC scope (cellsFrom (s.heap.objs.size + 1) scope.names (cloFrom X.env.cells scope.names [])) s.heap.objs.size X.env = cenv
  have kp : ∀ b o, s.heap.get? b = some o → (pushCells (s.heap.push { cls := .type "dict", data := .dict #[] }) scope.names).get? b = some o := fun b o e => pushCells_keeps _ _ _ _ (Heap.get?_push_of_some _ e)
  have hL : cenv.locals = s.heap.objs.size := by rw [← hcenv]; rfl
  have hcl : cenv.cells = cellsFrom (s.heap.objs.size + 1) scope.names (cloFrom X.env.cells scope.names []) := by rw [← hcenv]; rfl
  have hsc : cenv.scope = relS scope X.env.scope := by rw [← hcenv]; rfl
  rw [← Heap.size_push s.heap { cls := .type "dict", data := .dict #[] }] at hcl
  have cm : ∀ {y c}, (y, c) ∈ cloFrom X.env.cells scope.names [] → X.env.cells.lookup y = some c ∧ c < s.heap.objs.size := fun {y c} hm => by
    rcases cloFrom_mem hm with hm | ⟨h1, rfl⟩
    · cases hm
    · obtain ⟨c, hc⟩ := hfree _ h1 rfl
      rw [hc]
      obtain ⟨w, z⟩ := I.cell _ _ hc
      exact ⟨rfl, z.lt⟩
  have mem : ∀ {y c}, cenv.cells.lookup y = some c → (X.env.cells.lookup y = some c ∧ c < s.heap.objs.size) ∨ (s.heap.objs.size + 1 ≤ c ∧ CellAt (pushCells (s.heap.push { cls := .type "dict", data := .dict #[] }) scope.names) c none) := fun {y c} e => by
    rw [hcl] at e
    rcases cells_mem (PySem.mem_of_lookup e) with hm | ⟨_, h2, h3⟩
    · exact .inl (cm hm)
    · rw [Heap.size_push] at h2; exact .inr ⟨h2, h3⟩
  have look : ∀ {y}, scope.names.lookup y = some .free → ∃ c, cenv.cells.lookup y = some c ∧ X.env.cells.lookup y = some c := fun {y} hl => by
    have hy : (y, NameKind.free) ∈ scope.names := PySem.mem_of_lookup hl
    obtain ⟨c', e'⟩ := mem_lookup (cells_acc (names := scope.names) (n := (s.heap.push { cls := .type "dict", data := .dict #[] }).objs.size) (cloFrom_has (cells := X.env.cells) (acc := []) hy))
    rw [← hcl] at e'
    refine ⟨c', e', ?_⟩
    rw [hcl] at e'
    rcases cells_mem (PySem.mem_of_lookup e') with hm | ⟨h1, _, _⟩
    · exact (cm hm).1
    · have := ok.uniq _ h1
      rw [hl] at this; cases this
  have okB : (X.blk s H scope cenv fp).Ok := by
    refine ⟨I.ok.mod, by show cenv.scope.kind = _; rw [hsc]; exact ok.kind, by show cenv.globals = _; rw [← hcenv]; exact I.ok.glob, by show cenv.builtins = _; rw [← hcenv]; exact I.ok.blt, by show s.heap.objs.size ≤ cenv.locals; rw [hL]; exact Nat.le_refl _,
      fun y z c e1 e2 => ?_, fun y hy => ?_, fun y c z e => ?_, I.ok.hd, I.ok.frames, .inl rfl, fun b hb => ⟨?_, fun y c e z => ?_⟩, I.bs, Nat.le_trans I.ok.bsz I.sz, fun b o e hb => ?_, fun b hb z => ?_, I.stack, I.stkFree⟩
    · have e1 : cenv.cells.lookup y = some c := e1
      have e2 : cenv.cells.lookup z = some c := e2
      rw [hcl] at e1 e2
      refine cells_inj (fun p hp => ?_) (fun y z c a b => I.ok.inj y z c (cm a).1 (cm b).1) (PySem.mem_of_lookup e1) (PySem.mem_of_lookup e2)
      rw [Heap.size_push]
      exact Nat.lt_succ_of_lt (cm (y := p.1) (c := p.2) hp).2
    · show ∃ c, cenv.cells.lookup y = some c
      have key : ∀ k, cenv.kindOf y = some k → (k = .cell ∨ k = .free) → ∃ c, cenv.cells.lookup y = some c := fun k hk hk' => by
        unfold Env.kindOf at hk
        rw [hsc] at hk
        obtain ⟨k', e, r⟩ := lookup_relS hk
        have : k' = .cell ∨ k' = .free := by
          rcases r with rfl | ⟨rfl, _⟩
          · exact hk'
          · exact .inr rfl
        rcases this with rfl | rfl
        · obtain ⟨c, hm⟩ := cells_has (n := (s.heap.push { cls := .type "dict", data := .dict #[] }).objs.size) (acc := cloFrom X.env.cells scope.names []) (PySem.mem_of_lookup e)
          obtain ⟨c', e'⟩ := mem_lookup hm
          exact ⟨c', by rw [hcl]; exact e'⟩
        · obtain ⟨c, h1, _⟩ := look e
          exact ⟨c, h1⟩
      rcases hy with hy | hy
      · exact key _ hy (.inl rfl)
      · exact key _ hy (.inr rfl)
    · have z : (scope.names.lookup y == some NameKind.cell) = true := z
      have z : scope.names.lookup y = some .cell := by simpa using z
      have e : cenv.cells.lookup y = some c := e
      rw [hcl] at e
      rcases cells_mem (PySem.mem_of_lookup e) with hm | ⟨_, h2, _⟩
      · rcases cloFrom_mem hm with hm | ⟨h1, _⟩
        · cases hm
        · have q := ok.uniq _ h1
          rw [z] at q; cases q
      · rw [Heap.size_push] at h2
        exact Nat.le_of_succ_le h2
    · show b ≠ cenv.locals
      rw [hL]; exact Nat.ne_of_lt (hfp b hb).2
    · have e : cenv.cells.lookup y = some c := e
      rcases mem e with ⟨h1, _⟩ | ⟨h1, _⟩
      · exact (hfp b hb).1.2.2.2.2.1 y c h1 z
      · have h2 : s.heap.objs.size + 1 ≤ b := by rw [← z]; exact h1
        exact absurd (Nat.lt_of_lt_of_le (hfp b hb).2 (Nat.le_of_succ_le h2)) (Nat.lt_irrefl _)
    · rcases (hfp b hb).1.2.2.2.1 with z | z
      · exact I.ok.noex b o e z
      · exact absurd (Nat.lt_of_lt_of_le (Heap.lt_size e) (Nat.le_trans I.ok.bsz z)) (Nat.lt_irrefl _)
    · rcases List.mem_cons.mp (I.stkSub b z) with z | z
      · exact (hfp b hb).1.2.1 z
      · exact (hfp b hb).1.2.2.1 z
  refine ⟨okB, rfl, I.bare, Un.kept kp, ⟨fun _ => none, ?_, fun i y av e1 e2 e3 => ?_⟩, fun y c e => ?_, ?_, fun y c e => ?_, fun p hp => ?_, I.hok.kept kp, by rw [wipe_length]; exact I.len⟩
  · show Heap.Ns _ cenv.locals _
    rw [hL]
    exact Heap.Ns.keeps (Heap.Ns.new ..) fun b o e => pushCells_keeps _ _ _ _ e
  · obtain ⟨e2, hne⟩ := wipe_some e2
    have hfr : scope.names.lookup y = some .free ∧ (cenv.kindOf y = some .cell ∨ cenv.kindOf y = some .free) := by
      have key : ∀ k, cenv.scope.names.lookup y = some k → k = .local ∨ k = .cell ∨ k = .free → scope.names.lookup y = some .free ∧ (cenv.kindOf y = some .cell ∨ cenv.kindOf y = some .free) := fun k hk hk' => by
        have hk0 := hk
        rw [hsc] at hk
        obtain ⟨k', e, r⟩ := lookup_relS hk
        have no : ¬ (k' = .local ∨ k' = .cell) := fun hh => by
          rcases ok.own _ (PySem.mem_of_lookup e) hh with e' | e'
          · obtain ⟨p, hp, hpy⟩ := List.mem_map.mp e'
            have e3 := ok.ix p hp
            have : p.1 = y := hpy
            rw [this] at e3
            exact hne (List.mem_map.mpr ⟨p, hp, nodup_ix hN e3 e1⟩)
          · exact e' (List.mem_of_getElem? e1)
        rcases r with rfl | ⟨rfl, rfl⟩
        · rcases hk' with rfl | rfl | rfl
          · exact absurd (.inl rfl) no
          · exact absurd (.inr rfl) no
          · exact ⟨e, .inr hk0⟩
        · exact ⟨e, .inl hk0⟩
      have e3 : Vis cenv.scope y := e3
      rcases e3 with e3 | e3 | e3
      · exact key _ e3 (.inl rfl)
      · exact key _ e3 (.inr (.inl rfl))
      · exact key _ e3 (.inr (.inr rfl))
    obtain ⟨m, hn, hl⟩ := I.loc
    have hvis : Vis X.env.scope y := (ok.free _ (PySem.mem_of_lookup hfr.1) rfl).elim (fun k => .inr (.inl k)) (fun k => .inr (.inr k))
    obtain ⟨w, r, q⟩ := hl i y av e1 e2 hvis
    refine ⟨w, r, .inr ⟨hfr.2, ?_⟩⟩
    obtain ⟨c, h1, h2⟩ := look hfr.1
    rcases q with ⟨k, _⟩ | ⟨_, c', e', z⟩
    · have k : X.env.scope.names.lookup y = some .local := k
      rcases ok.free _ (PySem.mem_of_lookup hfr.1) rfl with k' | k' <;> rw [show X.env.scope.names.lookup y = _ from k'] at k <;> cases k
    · rw [h2] at e'; cases e'
      exact ⟨c, h1, z.keeps kp⟩
  · have e : cenv.cells.lookup y = some c := e
    rcases mem e with ⟨h1, _⟩ | ⟨_, z⟩
    · obtain ⟨w, z⟩ := I.cell y c h1
      exact ⟨w, z.keeps kp⟩
    · exact ⟨_, z⟩
  · show H cenv.locals = none
    rw [hL]; exact I.hok.fresh (Nat.le_refl _)
  · have e : cenv.cells.lookup y = some c := e
    rcases mem e with ⟨h1, _⟩ | ⟨h1, _⟩
    · exact I.freeC y c h1
    · exact I.hok.fresh (Nat.le_of_succ_le h1)
  · exact absurd (show p ∈ ([] : List (Addr × Obj)) ++ [] from hp) (by simp)
theorem app_ok {E : Value → Shared → Prop} {D : Addr} {xs : List V} {y : V} {v : Value} {Q : Value → Shared → Prop} (I : Inv X pins σ H s) (hD : H D = some (.lst xs)) (hz : xs.length < sizeLine) (r : RelV y v)
    (h : ∀ s', Inv X pins σ (upd H D (.lst (xs ++ [y]))) s' → Q .none s') : wpAny (model X.prog X.w) X.A (call (.builtin "list.append") [.ref D, v]) Q E s := by
  obtain ⟨hz', its, n, ri, e⟩ := I.hok D _ hD
  have hl := ri.length
  refine append_at (hsz := by rw [List.size_toArray]; omega) e fun h' sb ho' => ?_
  refine h { s with heap := h' } (I.write (t' := s.toks) (by rw [hD]; trivial) (.inl rfl) (fun b u hb q => (sb.2 b hb).trans q) ⟨_, ho'⟩ ⟨by rw [List.length_append]; exact hz, its ++ [v], n + 1, ri.append (.cons r .nil), ?_⟩)
  rw [ho']
  simp
def PTs (X : Cx) (ifs : List Expr) (t : TT) : Prop :=
  ∀ (pins : List (Addr × Obj)) (s : Shared) (σ : St) (H : Hp) (Q : Bool → Hp → Prop), Inv X pins σ H s → t σ H Q →
    wpAny (model X.prog X.w) X.A (forIn ifs true fun c r => if r = true then do let ok ← isTrue c X.env (eval c X.env); pure (ForInStep.yield ok) else pure (ForInStep.yield r)) (TP X pins σ Q) X.xe s
def tYes : TT := fun _ H Q => Q true H
theorem pts_nil : PTs X [] tYes := fun _ _ _ H _ I h => wpAny_tests_nil ⟨H, I, h⟩
theorem pts_one {c : Expr} {t : TT} (h : PT X c t) : PTs X [c] t := fun pins s σ H Q I hw => wpAny_tests_one (h pins s σ H Q I hw)
end
theorem thnF {α : Type} {t : Sem α} {Q Q' : α → Shared → Prop} {M : Model} {A : Around} {E : Value → Shared → Prop} {s : Shared} (h : wpAny M A t Q (fun _ _ => False) s) (hQ : ∀ a s, Q a s → Q' a s) : wpAny M A t Q' E s := wpAny_mono h hQ fun _ _ z => False.elim z
theorem compLoop_any {prog : Program} {w : World} {A : Around} {R : Result → Shared → Prop} {s : Shared} {elt target iter : Expr} {ifs : List Expr} {scope : Scope} {pos : Pos} {it acc : Value} {env : Env} (I : Nat → Shared → Prop)
    (turn : ∀ n s, I n s → wpAny (model prog w) A (pyNext it) (fun r s₁ => match r with
      | none => R (.ok .next) s₁
      | some v => wpAny (model prog w) A (letOwnedTupleGo target it v) (fun _ s₁' => wpAny (model prog w) A (assign target env v) (fun _ s₂ =>
          wpAny (model prog w) A (forIn ifs true fun c r => if r = true then do let ok ← isTrue c env (eval c env); pure (ForInStep.yield ok) else pure (ForInStep.yield r)) (fun ok s₃ =>
            if ok = true then wpAny (model prog w) A (eval elt env) (fun x s₄ =>
              wpAny (model prog w) A (call (.builtin "list.append") [acc, x]) (fun _ s₅ => ∃ m, m < n ∧ I m s₅) (notedBy (model prog w) A env fun e s' => R (.error e) s') s₄) (notedBy (model prog w) A env fun e s' => R (.error e) s') s₃
            else ∃ m, m < n ∧ I m s₃) (notedBy (model prog w) A env fun e s' => R (.error e) s') s₂) (notedBy (model prog w) A env fun e s' => R (.error e) s') s₁') (notedBy (model prog w) A env fun e s' => R (.error e) s') s₁) (notedBy (model prog w) A env fun e s' => R (.error e) s') s)
    (n : Nat) (h : I n s) :
    codeAny (model prog w) A (.compLoop (.ListComp elt [⟨target, iter, ifs, 0⟩] scope pos) 0 it acc env) R s := by
  refine codeAny_loop rfl I (fun n s hI => ?_) n h
  show wpAny _ A ((compTurn (.ListComp elt [⟨target, iter, ifs, 0⟩] scope pos) 0 it acc env).onRaise (fun x => do noteFrame x env; theTreesLotGoes x)) _ _ s
  refine wpAny_noted ?_
  rw [compTurn_list]
  refine wpAny_bind (wpAny_standAt (wpAny_bind (wpAny_mono (turn n s hI) (fun r s₁ h₁ => ?_) fun _ _ h' => h')))
  cases r with
  | none => exact wpAny_pure h₁
  | some v =>
    refine wpAny_bind (wpAny_mono h₁ (fun _ s₁' h₁' => ?_) fun _ _ h' => h')
    refine wpAny_bind (wpAny_mono h₁' (fun _ s₂ h₂ => wpAny_bind (wpAny_mono h₂ (fun ok s₃ h₃ => ?_) fun _ _ h' => h')) fun _ _ h' => h')
    cases ok with
    | false => exact wpAny_pure ⟨rfl, h₃⟩
    | true =>
      exact wpAny_bind (wpAny_bind (wpAny_mono h₃ (fun x s₄ h₄ => wpAny_bind (wpAny_mono h₄ (fun _ s₅ h₅ => wpAny_pure (wpAny_pure ⟨rfl, h₅⟩)) fun _ _ h' => h')) fun _ _ h' => h'))
section
variable {X : Cx}
def tLc (wi : TI) (g : TG) (tt : TT) (te : TE) (vs : List Nat) : TE := fun σ H Q => wi σ H fun J H1 => ∀ D, H1 D = none → ∃ W : Nat → Nat → Hp → Prop, (∃ m, W 0 m (upd H1 D (.lst []))) ∧ ∀ i m H, W i m H →
  (J.stop i H ∧ Q (.ref D) H) ∨ (J.go i H ∧ ∃ Nx : Hp → Prop, (∀ H', Nx H' → ∃ m', m' < m ∧ W (i + 1) m' H') ∧ ∀ x H', J.yld i H x H' → g x (wipe σ vs) H' fun σ2 H2 => wipe σ2 vs = wipe σ vs ∧ tt σ2 H2 fun b H3 =>
    if b = true then te σ2 H3 fun y H4 => ∃ acc, H4 D = some (.lst acc) ∧ acc.length < sizeLine ∧ Nx (upd H4 D (.lst (acc ++ [y]))) else Nx H3)
theorem lc_core {pins : List (Addr × Obj)} {s : Shared} {σ : St} {H : Hp} {Q : VK} {elt tg iter : Expr} {ifs : List Expr} {scope : Scope} {own : List (Str × Nat)} {pos pos' : Pos} {wi : TI} {g : TG} {tt : TT} {te : TE} {use : Option (Value → Sem Unit)} {Qf : Value → Shared → Prop}
    (hc : X.calm = true) (hN : X.N.Nodup) (I : Inv X pins σ H s) (hi : PI X tg iter wi) (ok : BlkOk X.N X.env.scope scope own)
    (hg : ∀ (s : Shared) (H : Hp) (C : Addr) (cl : List (Str × Addr)) (fp : List Addr), PG (X.blk s H scope (compEnvC scope cl C X.env) fp) tg g) (ht : ∀ (s : Shared) (H : Hp) (C : Addr) (cl : List (Str × Addr)) (fp : List Addr), PTs (X.blk s H scope (compEnvC scope cl C X.env) fp) ifs tt)
    (he : ∀ (s : Shared) (H : Hp) (C : Addr) (cl : List (Str × Addr)) (fp : List Addr), PE (X.blk s H scope (compEnvC scope cl C X.env) fp) elt te) (hs : ∀ x, foldedSetIterable iter X.env x = pure x)
    (h : tLc wi g tt te (own.map (·.2)) σ H Q)
    (hRR : ∀ D C s' m H', Inv X pins σ H' s' → Q (.ref D) H' → s'.heap.Ns C m → FpOk X pins H' C → compPost (model X.prog X.w) X.A X.xe use Qf (.ref D) C (.ok .next) s') :
    wpAny (model X.prog X.w) X.A (comprehension (.ListComp elt [⟨tg, iter, ifs, 0⟩] scope pos) scope X.env pos' (newList []) false (eval iter X.env) use) Qf X.xe s := by
  have hfree : ∀ y ∈ scope.names, y.2 = .free → ∃ c, X.env.cells.lookup y.1 = some c := fun y hy e => by
    rcases ok.free y hy e with k | k
    · exact I.ok.has _ (.inl k)
    · exact I.ok.has _ (.inr k)
  refine wpAny_comprehension_free (use := use) rfl hs (closure_ok hfree) ok.kind (fun y hy e => by rw [ok.uniq y hy, e])
    (thn (hi pins s σ H _ I h) fun xv s1 hx => thn hx fun itv s2 h2 => ?_)
  obtain ⟨it, fp, tn, J, H2, e, I2, T, st2, f2, q⟩ := h2
  subst e
  refine wpAny_newObj_type (newEnv_comp ?_) (by show 0 ≤ sizeLine; decide)
  generalize hD : s2.heap.objs.size = D
  have hDn : H2 D = none := I2.hok.fresh (Nat.le_of_eq hD)
  obtain ⟨W, ⟨m0, w0⟩, turn⟩ := q D hDn
  -- the new list
  generalize hs3 : ({ s2 with heap := s2.heap.push { cls := .type "list", data := .seq ([] : List Value).toArray } } : Shared) = s3
  have I3 : Inv X pins σ (upd H2 D (.lst [])) s3 := by
    rw [← hs3]
    refine I2.laid (t' := s2.toks) (fun b o e => Heap.get?_push_of_some _ e) (Nat.le_of_eq hD) ⟨Nat.zero_le _, [], 0, .nil, ?_⟩
    rw [← hD]
    exact Heap.get?_push_size _ rfl
  have h3 : s3.heap = s2.heap.push { cls := .type "list", data := .seq ([] : List Value).toArray } := by rw [← hs3]
  have sz : ∀ b ∈ fp, b < s2.heap.objs.size := fun b hb => by
    obtain ⟨o, e, _⟩ := T.obj _ _ st2 b hb
    exact Heap.lt_size e
  have f3 : ∀ b ∈ fp, FpOk X pins (upd H2 D (.lst [])) b ∧ b < s3.heap.objs.size := fun b hb => by
    have hlt := sz b hb
    refine ⟨⟨?_, (f2 b hb).2⟩, by rw [h3, Heap.size_push]; exact Nat.lt_succ_of_lt hlt⟩
    rw [upd_ne (by rw [← hD]; exact Nat.ne_of_lt hlt)]
    exact (f2 b hb).1
  have st3 : tn 0 s3.heap := T.keep _ _ _ st2 fun b _ o e => by rw [h3]; exact Heap.get?_push_of_some _ e
  have I4 := block_start I3 ok hN f3
  have pg := hg s3 (upd H2 D (.lst [])) s3.heap.objs.size (cellsFrom (s3.heap.objs.size + 1) scope.names (cloFrom X.env.cells scope.names [])) fp
  have pt := ht s3 (upd H2 D (.lst [])) s3.heap.objs.size (cellsFrom (s3.heap.objs.size + 1) scope.names (cloFrom X.env.cells scope.names [])) fp
  have pe := he s3 (upd H2 D (.lst [])) s3.heap.objs.size (cellsFrom (s3.heap.objs.size + 1) scope.names (cloFrom X.env.cells scope.names [])) fp
  show codeAny _ _ (.compStart (.ListComp elt [⟨tg, iter, ifs, 0⟩] scope pos) 0 (.ref it) (.ref D) (compEnvC scope (cellsFrom (s3.heap.objs.size + 1) scope.names (cloFrom X.env.cells scope.names [])) s3.heap.objs.size X.env)) (compPost (model X.prog X.w) X.A X.xe use Qf (.ref D) s3.heap.objs.size) { s3 with heap := pushCells (s3.heap.push { cls := .type "dict", data := .dict #[] }) scope.names }
  have nfp : ∀ b ∈ fp, (upd H2 D (.lst [])) b = none := fun b hb => (f3 b hb).1.1
  generalize hce : compEnvC scope (cellsFrom (s3.heap.objs.size + 1) scope.names (cloFrom X.env.cells scope.names [])) s3.heap.objs.size X.env = ce at I4 pg pt pe ⊢
  have cL : ce.locals = s3.heap.objs.size := by subst hce; rfl
  generalize hH3 : upd H2 D (.lst []) = H3 at I3 I4 pg pt pe w0 nfp f3
  generalize hs4 : ({ s3 with heap := pushCells (s3.heap.push { cls := .type "dict", data := .dict #[] }) scope.names } : Shared) = s4 at I4 ⊢
  have st4 : tn 0 s4.heap := T.keep _ _ _ st3 fun b _ o e => by rw [← hs4]; exact pushCells_keeps _ _ _ _ (Heap.get?_push_of_some _ e)
  have stat : ∀ {σ' : St} {H' : Hp} {s' : Shared}, Inv (X.blk s3 H3 scope ce fp) [] σ' H' s' → (∀ b ∈ fp, H' b = none) → ∀ b ∈ fp, FpOk (X.blk s3 H3 scope ce fp) [] H' b := fun {σ' H' s'} I' hn b hb =>
    ⟨hn b hb, (I'.ok.exf b hb).1, I'.ok.exfs b hb, .inl hb, fun x c e => (I'.ok.exf b hb).2 x c e, fun p hp => absurd (show p ∈ ([] : List (Addr × Obj)) ++ [] from hp) (by simp)⟩
  have loop : codeAny (model X.prog X.w) X.A (.compLoop (.ListComp elt [⟨tg, iter, ifs, 0⟩] scope pos) 0 (.ref it) (.ref D) ce) (compPost (model X.prog X.w) X.A X.xe use Qf (.ref D) s3.heap.objs.size) s4 := by
    refine compLoop_any (fun n s' => ∃ i H', Inv (X.blk s3 H3 scope ce fp) [] (wipe σ (own.map (·.2))) H' s' ∧ tn i s'.heap ∧ (∀ b ∈ fp, H' b = none) ∧ W i n H') ?_ m0 ⟨0, H3, I4, st4, nfp, w0⟩
    rintro n s5 ⟨i, H5, I5, st5, n5, w5⟩
    rcases turn i n H5 w5 with ⟨stop, qq⟩ | ⟨go, Nx, hNx, step⟩
    · have td := T.done (X.blk s3 H3 scope ce fp) rfl rfl rfl hc i [] s5 _ H5 (fun _ _ => False) I5 (stat I5 n5) st5 stop
      refine thnF td fun r s6 ⟨hr, I6⟩ => ?_
      subst hr
      -- back in the def's context
      have I7 : Inv X pins σ H5 s6 := I3.call' (ch := fp) I6.os I6.base I6.hok I6.bare fun b hb => ⟨(f3 b hb).1.2.2.2.1, (f3 b hb).1.2.1, (f3 b hb).1.2.2.2.2.1, (f3 b hb).1.2.2.2.2.2⟩
      have nC : H5 s3.heap.objs.size = none := by
        have z : H5 ce.locals = none := I6.free
        rw [cL] at z
        exact z
      obtain ⟨m, hn, _⟩ := I6.loc
      have hn : s6.heap.Ns ce.locals m := hn
      rw [cL] at hn
      exact hRR D s3.heap.objs.size s6 m H5 I7 qq hn (I3.fpOk (Nat.le_refl _) nC)
    · have ti := T.item (X.blk s3 H3 scope ce fp) rfl rfl rfl hc i [] s5 _ H5 (fun _ _ => False) I5 (stat I5 n5) st5 go
      refine thnF ti fun r s6 ⟨u, hr, h6⟩ => ?_
      subst hr
      refine thnF h6 fun _ s7 ⟨x, H7, I7, r7, y7, st7, n7⟩ => ?_
      have I7' := I7.pinned (stat I7 n7) (T.obj _ _ st7)
      refine thnF (pg _ s7 _ H7 x u _ I7' r7 (step x H7 y7)) fun _ s8 ⟨σ8, H8, I8, hw8, q8⟩ => ?_
      refine thnF (pt _ s8 σ8 H8 _ I8 q8) fun b s9 ⟨H9, I9, q9⟩ => ?_
      -- the turn's end
      have fin : ∀ {s' : Shared} {H' : Hp}, Inv (X.blk s3 H3 scope ce fp) ([] ++ pinsAt fp s7.heap) σ8 H' s' → Nx H' → ∃ m, m < n ∧ ∃ i H', Inv (X.blk s3 H3 scope ce fp) [] (wipe σ (own.map (·.2))) H' s' ∧ tn i s'.heap ∧ (∀ b ∈ fp, H' b = none) ∧ W i m H' := fun {s' H'} I' nx => by
        obtain ⟨m', hm, w'⟩ := hNx H' nx
        have pin' : ∀ b ∈ fp, ∀ o, s7.heap.get? b = some o → s'.heap.get? b = some o ∧ H' b = none := fun b hb o e =>
          let z := I'.pin (b, o) (List.mem_append_right _ (List.mem_append_right _ (mem_pinsAt hb e)))
          ⟨z.1, z.2.1⟩
        have hl : (wipe σ (own.map (·.2))).length = σ8.length := by rw [← hw8, wipe_length]
        refine ⟨m', hm, i + 1, H', (I'.unpinned (pins := [])).weak hl (fun j v e => ?_), T.keep _ _ _ st7 fun b hb o e => (pin' b hb o e).1, fun b hb => ?_, w'⟩
        · rw [← hw8] at e
          exact (wipe_some e).1
        · obtain ⟨o, e, _⟩ := T.obj _ _ st7 b hb
          exact (pin' b hb o e).2
      cases b with
      | false =>
        simp only [Bool.false_eq_true, if_false] at q9 ⊢
        exact fin I9 q9
      | true =>
        simp only [if_true] at q9 ⊢
        refine thnF (pe _ s9 σ8 H9 _ I9 q9) fun z s10 ⟨yv, H10, I10, r10, acc, hD10, hz10, nx⟩ => ?_
        exact app_ok (X := X.blk s3 H3 scope ce fp) I10 hD10 hz10 r10 fun s11 I11 => fin I11 nx
  exact codeAny_compStart_list loop (T.self X.A 0 _ _ _ st4 loop)
theorem pe_lc {elt tg iter : Expr} {ifs : List Expr} {scope : Scope} {own : List (Str × Nat)} {pos : Pos} {wi : TI} {g : TG} {tt : TT} {te : TE} (hc : X.calm = true) (hN : X.N.Nodup) (hi : PI X tg iter wi) (ok : BlkOk X.N X.env.scope scope own)
    (hg : ∀ (s : Shared) (H : Hp) (C : Addr) (cl : List (Str × Addr)) (fp : List Addr), PG (X.blk s H scope (compEnvC scope cl C X.env) fp) tg g) (ht : ∀ (s : Shared) (H : Hp) (C : Addr) (cl : List (Str × Addr)) (fp : List Addr), PTs (X.blk s H scope (compEnvC scope cl C X.env) fp) ifs tt)
    (he : ∀ (s : Shared) (H : Hp) (C : Addr) (cl : List (Str × Addr)) (fp : List Addr), PE (X.blk s H scope (compEnvC scope cl C X.env) fp) elt te) (hs : ∀ x, foldedSetIterable iter X.env x = pure x := by intro _; rfl) :
    PE X (.ListComp elt [⟨tg, iter, ifs, 0⟩] scope pos) (tLc wi g tt te (own.map (·.2))) := by
  refine ⟨?_⟩
  intro pins s σ H Q I h
  rw [eval_ListComp]
  refine lc_core hc hN I hi ok hg ht he hs h fun D C s' m H' I' q hn f => ⟨m, hn, fun h'' sb => ?_⟩
  obtain ⟨f0, f1, f2, f3, f4, f5⟩ := f
  exact ⟨.ref D, H', I'.turned (t' := s'.toks) (fun b o hb e => (sb.2 b hb).trans e) f0 f1 f3 f4 f5, rfl, q⟩
theorem ps_setLc {i : Nat} {y : Str} {py : Pos} {elt tg iter : Expr} {ifs : List Expr} {scope : Scope} {own : List (Str × Nat)} {pos spos : Pos} {wi : TI} {g : TG} {tt : TT} {te : TE} (hc : X.calm = true) (hN : X.N.Nodup) (hy : X.N[i]? = some y) (hyl : X.env.scope.names.lookup y = some .local)
    (hsw : swapsWith (.ListComp elt [⟨tg, iter, ifs, 0⟩] scope pos) (some (.Name y py)) spos.line X.env = pure true) (hi : PI X tg iter wi) (ok : BlkOk X.N X.env.scope scope own)
    (hg : ∀ (s : Shared) (H : Hp) (C : Addr) (cl : List (Str × Addr)) (fp : List Addr), PG (X.blk s H scope (compEnvC scope cl C X.env) fp) tg g) (ht : ∀ (s : Shared) (H : Hp) (C : Addr) (cl : List (Str × Addr)) (fp : List Addr), PTs (X.blk s H scope (compEnvC scope cl C X.env) fp) ifs tt)
    (he : ∀ (s : Shared) (H : Hp) (C : Addr) (cl : List (Str × Addr)) (fp : List Addr), PE (X.blk s H scope (compEnvC scope cl C X.env) fp) elt te) (hs : ∀ x, foldedSetIterable iter X.env x = pure x := by intro _; rfl) :
    PS X (.Assign [.Name y py] (.ListComp elt [⟨tg, iter, ifs, 0⟩] scope pos) spos) (tAsg (tLc wi g tt te (own.map (·.2))) (gName i)) := by
  refine ⟨?_⟩
  intro pins s σ H D I h
  rw [exec_Assign_Name_used _ _ _ _ hsw]
  refine wpAny_bind (wpAny_standAt (wpAny_bind ?_))
  show wpAny _ X.A (do let _ ← comprehension (.ListComp elt [⟨tg, iter, ifs, 0⟩] scope pos) scope X.env (firstIterPos [⟨tg, iter, ifs, 0⟩] pos) (newList []) false (eval iter X.env) (some (assign (.Name y py) X.env))) _ _ s
  have h : tLc wi g tt te (own.map (·.2)) σ H (fun x H1 => gName i x σ H1 D.nx) := h
  refine wpAny_bind (thn (lc_core (Qf := fun _ s' => SP X pins D .next s') hc hN I hi ok hg ht he hs h fun L C s' m H' I' q hn f => ?_) fun _ s' hq => wpAny_pure (wpAny_pure hq))
  show wpAny _ _ (assign (.Name y py) X.env (.ref L)) _ _ _
  refine wpAny_assign_Name (store_ok2 (v := V.ref L) I' hN hy (.inl hyl) rfl (fun s2 I2 ⟨a, sb, ha⟩ => ?_) (.inr hyl))
  obtain ⟨f0, f1, f2, f3, f4, f5⟩ := f
  have haC : C ≠ a := by
    rcases ha with z | z
    · rw [z]; exact f1
    · exact fun e => f4 y a z e.symm
  refine ⟨m, hn.sameBut sb haC, fun h3 sb3 => ?_⟩
  exact ⟨_, H', I2.turned (t' := s2.toks) (fun b o hb e => (sb3.2 b hb).trans e) f0 f1 f3 f4 f5, q⟩
theorem sw_true {elt : Expr} {gs : List Comprehension} {scope : Scope} {pos py : Pos} {y : Str} {l : Nat} {env : Env} (hk : env.scope.kind = .function) (hy : env.scope.names.lookup y = some .local) (hl : (py.line == pos.line) = true)
    (ha : (scope.names.any fun (n, k) => n == y && (k == .local || k == .cell)) = false) : swapsWith (.ListComp elt gs scope pos) (some (.Name y py)) l env = pure true := by
  have ky : env.kindOf y = some .local := hy
  have hb : env.blockKind = .function := by unfold Env.blockKind; rw [hk]; rfl
  unfold swapsWith
  simp only [hb, ky, ha, Expr.pos, hl]
  rfl
end
def blkC (N : List Str) (sc scope : Scope) (own : List (Str × Nat)) : Bool :=
  (match scope.kind with | .function => true | _ => false) && (scope.names.all fun y => decide (scope.names.lookup y.1 = some y.2)) && (own.all fun p => decide (N[p.2]? = some p.1)) &&
    (scope.names.all fun y => match y.2 with
      | .free => (match sc.names.lookup y.1 with | some .cell => true | some .free => true | _ => false)
      | .local => decide (y.1 ∈ own.map (·.1)) || decide (y.1 ∉ N)
      | .cell => decide (y.1 ∈ own.map (·.1)) || decide (y.1 ∉ N)
      | _ => true)
theorem blkOk_by {N : List Str} {sc scope : Scope} {own : List (Str × Nat)} (h : blkC N sc scope own = true) : BlkOk N sc scope own := by
  unfold blkC at h
  simp only [Bool.and_eq_true, List.all_eq_true, decide_eq_true_eq] at h
  obtain ⟨⟨⟨h1, h2⟩, h3⟩, h4⟩ := h
  refine ⟨?_, h2, h3, fun y hy e => ?_, fun y hy e => ?_⟩
  · split at h1
    · assumption
    · cases h1
  · have q := h4 y hy
    simp only [e] at q
    split at q <;> first | exact .inl (by assumption) | exact .inr (by assumption) | cases q
  · have q := h4 y hy
    rcases e with e | e <;> (simp only [e, Bool.or_eq_true, decide_eq_true_eq] at q; exact q)
end L2
namespace L2
open PySem PySem.Spec PyProof.Rows
theorem compTurn2_out (elt t0 i0 t1 i1 : Expr) (ifs0 ifs1 : List Expr) (scope : Scope) (pos : Pos) (it acc : Value) (env : Env) :
    compTurn (.ListComp elt [⟨t0, i0, ifs0, 0⟩, ⟨t1, i1, ifs1, 0⟩] scope pos) 0 it acc env = (do
      standAt i0.pos
      match ← pyNext it with
      | none => pure (.done .next)
      | some v =>
        letOwnedTupleGo t0 it v
        assign t0 env v
        let mut ok := true
        for c in ifs0 do
          if ok then ok ← isTrue c env (eval c env)
        if ok then
          let x ← eval i1 env
          standAt i1.pos
          let x ← foldedSetIterable i1 env x
          let _ ← runOwn (.compStart (.ListComp elt [⟨t0, i0, ifs0, 0⟩, ⟨t1, i1, ifs1, 0⟩] scope pos) 1 (← holding [x] (pyIter x)) acc env) env
        again (.compLoop (.ListComp elt [⟨t0, i0, ifs0, 0⟩, ⟨t1, i1, ifs1, 0⟩] scope pos) 0 it acc env)) := by rfl
theorem compTurn2_in (elt t0 i0 t1 i1 : Expr) (ifs0 ifs1 : List Expr) (scope : Scope) (pos : Pos) (it acc : Value) (env : Env) :
    compTurn (.ListComp elt [⟨t0, i0, ifs0, 0⟩, ⟨t1, i1, ifs1, 0⟩] scope pos) 1 it acc env = (do
      standAt i1.pos
      match ← pyNext it with
      | none => pure (.done .next)
      | some v =>
        letOwnedTupleGo t1 it v
        assign t1 env v
        let mut ok := true
        for c in ifs1 do
          if ok then ok ← isTrue c env (eval c env)
        if ok then
          (do let _ ← call (.builtin "list.append") [acc, ← eval elt env])
        again (.compLoop (.ListComp elt [⟨t0, i0, ifs0, 0⟩, ⟨t1, i1, ifs1, 0⟩] scope pos) 1 it acc env)) := by rfl
section
variable {prog : Program} {w : World} {A : Around} {R : Result → Shared → Prop} {s : Shared} {elt t0 i0 t1 i1 : Expr} {ifs0 ifs1 : List Expr} {scope : Scope} {pos : Pos} {it acc : Value} {env : Env}
theorem compLoop2_out (hs : ∀ x, foldedSetIterable i1 env x = pure x) (I : Nat → Shared → Prop)
    (turn : ∀ n s, I n s → wpAny (model prog w) A (pyNext it) (fun r s₁ => match r with
      | none => R (.ok .next) s₁
      | some v => wpAny (model prog w) A (letOwnedTupleGo t0 it v) (fun _ s₁' => wpAny (model prog w) A (assign t0 env v) (fun _ s₂ =>
          wpAny (model prog w) A (forIn ifs0 true fun c r => if r = true then do let ok ← isTrue c env (eval c env); pure (ForInStep.yield ok) else pure (ForInStep.yield r)) (fun ok s₃ =>
            if ok = true then wpAny (model prog w) A (eval i1 env) (fun x s₄ => wpAny (model prog w) A (pyIter x) (fun it1 s₅ =>
              codeAny (model prog w) A (.compStart (.ListComp elt [⟨t0, i0, ifs0, 0⟩, ⟨t1, i1, ifs1, 0⟩] scope pos) 1 it1 acc env) (fun r s' => match r with
                | .ok _ => ∃ m, m < n ∧ I m s'
                | .error _ => False) s₅) (notedBy (model prog w) A env fun e s' => R (.error e) s') s₄) (notedBy (model prog w) A env fun e s' => R (.error e) s') s₃
            else ∃ m, m < n ∧ I m s₃) (notedBy (model prog w) A env fun e s' => R (.error e) s') s₂) (notedBy (model prog w) A env fun e s' => R (.error e) s') s₁') (notedBy (model prog w) A env fun e s' => R (.error e) s') s₁) (notedBy (model prog w) A env fun e s' => R (.error e) s') s)
    (n : Nat) (h : I n s) :
    codeAny (model prog w) A (.compLoop (.ListComp elt [⟨t0, i0, ifs0, 0⟩, ⟨t1, i1, ifs1, 0⟩] scope pos) 0 it acc env) R s := by
  refine codeAny_loop rfl I (fun n s hI => ?_) n h
  show wpAny _ A ((compTurn (.ListComp elt [⟨t0, i0, ifs0, 0⟩, ⟨t1, i1, ifs1, 0⟩] scope pos) 0 it acc env).onRaise (fun x => do noteFrame x env; theTreesLotGoes x)) _ _ s
  refine wpAny_noted ?_
  rw [compTurn2_out]
  refine wpAny_bind (wpAny_standAt (wpAny_bind (wpAny_mono (turn n s hI) (fun r s₁ h₁ => ?_) fun _ _ h' => h')))
  cases r with
  | none => exact wpAny_pure h₁
  | some v =>
    refine wpAny_bind (wpAny_mono h₁ (fun _ s₁' h₁' => ?_) fun _ _ h' => h')
    refine wpAny_bind (wpAny_mono h₁' (fun _ s₂ h₂ => wpAny_bind (wpAny_mono h₂ (fun ok s₃ h₃ => ?_) fun _ _ h' => h')) fun _ _ h' => h')
    cases ok with
    | false => exact wpAny_pure ⟨rfl, h₃⟩
    | true =>
      refine wpAny_bind (wpAny_mono h₃ (fun x s₄ h₄ => ?_) fun _ _ h' => h')
      refine wpAny_bind (wpAny_standAt (wpAny_bind (wpAny_of_eq (hs x) (wpAny_bind (wpAny_holding (wpAny_mono h₄ (fun it1 s₅ h₅ => ?_) fun _ _ h' => h'))))))
      refine wpAny_bind (wpAny_runOwn ?_)
      rw [Around.mark_none]
      refine codeAny_mono h₅ fun r s' hr => ?_
      cases r with
      | ok f =>
        first
          | exact wpAny_pure ⟨rfl, hr⟩
          | exact wpAny_bind (wpAny_pure (wpAny_pure ⟨rfl, hr⟩))
      | error e => exact hr.elim
theorem compLoop2_in (I : Nat → Shared → Prop)
    (turn : ∀ n s, I n s → wpAny (model prog w) A (pyNext it) (fun r s₁ => match r with
      | none => R (.ok .next) s₁
      | some v => wpAny (model prog w) A (letOwnedTupleGo t1 it v) (fun _ s₁' => wpAny (model prog w) A (assign t1 env v) (fun _ s₂ =>
          wpAny (model prog w) A (forIn ifs1 true fun c r => if r = true then do let ok ← isTrue c env (eval c env); pure (ForInStep.yield ok) else pure (ForInStep.yield r)) (fun ok s₃ =>
            if ok = true then wpAny (model prog w) A (eval elt env) (fun x s₄ =>
              wpAny (model prog w) A (call (.builtin "list.append") [acc, x]) (fun _ s₅ => ∃ m, m < n ∧ I m s₅) (notedBy (model prog w) A env fun e s' => R (.error e) s') s₄) (notedBy (model prog w) A env fun e s' => R (.error e) s') s₃
            else ∃ m, m < n ∧ I m s₃) (notedBy (model prog w) A env fun e s' => R (.error e) s') s₂) (notedBy (model prog w) A env fun e s' => R (.error e) s') s₁') (notedBy (model prog w) A env fun e s' => R (.error e) s') s₁) (notedBy (model prog w) A env fun e s' => R (.error e) s') s)
    (n : Nat) (h : I n s) :
    codeAny (model prog w) A (.compLoop (.ListComp elt [⟨t0, i0, ifs0, 0⟩, ⟨t1, i1, ifs1, 0⟩] scope pos) 1 it acc env) R s := by
  refine codeAny_loop rfl I (fun n s hI => ?_) n h
  show wpAny _ A ((compTurn (.ListComp elt [⟨t0, i0, ifs0, 0⟩, ⟨t1, i1, ifs1, 0⟩] scope pos) 1 it acc env).onRaise (fun x => do noteFrame x env; theTreesLotGoes x)) _ _ s
  refine wpAny_noted ?_
  rw [compTurn2_in]
  refine wpAny_bind (wpAny_standAt (wpAny_bind (wpAny_mono (turn n s hI) (fun r s₁ h₁ => ?_) fun _ _ h' => h')))
  cases r with
  | none => exact wpAny_pure h₁
  | some v =>
    refine wpAny_bind (wpAny_mono h₁ (fun _ s₁' h₁' => ?_) fun _ _ h' => h')
    refine wpAny_bind (wpAny_mono h₁' (fun _ s₂ h₂ => wpAny_bind (wpAny_mono h₂ (fun ok s₃ h₃ => ?_) fun _ _ h' => h')) fun _ _ h' => h')
    cases ok with
    | false => exact wpAny_pure ⟨rfl, h₃⟩
    | true =>
      exact wpAny_bind (wpAny_bind (wpAny_mono h₃ (fun x s₄ h₄ => wpAny_bind (wpAny_mono h₄ (fun _ s₅ h₅ => wpAny_pure (wpAny_pure ⟨rfl, h₅⟩)) fun _ _ h' => h')) fun _ _ h' => h'))
theorem compStart1_ok (h0 : codeAny (model prog w) A (.compLoop (.ListComp elt [⟨t0, i0, ifs0, 0⟩, ⟨t1, i1, ifs1, 0⟩] scope pos) 1 it acc env) R s)
    (h : wpAny (model prog w) A (pyIter it) (fun it' s' => codeAny (model prog w) A (.compLoop (.ListComp elt [⟨t0, i0, ifs0, 0⟩, ⟨t1, i1, ifs1, 0⟩] scope pos) 1 it' acc env) R s')
      (notedBy (model prog w) A env fun x s' => R (.error x) s') s) :
    codeAny (model prog w) A (.compStart (.ListComp elt [⟨t0, i0, ifs0, 0⟩, ⟨t1, i1, ifs1, 0⟩] scope pos) 1 it acc env) R s := by
  refine codeAny_of_tree ?_
  show wpAny _ _ ((compStart (.ListComp elt [⟨t0, i0, ifs0, 0⟩, ⟨t1, i1, ifs1, 0⟩] scope pos) 1 it acc env).onRaise (fun x => do noteFrame x env; standAt theWindowsPlace)) _ _ s
  refine wpAny_notedAt ?_
  unfold compStart
  show wpAny _ _ (ask >>= _) _ _ s
  refine wpAny_bind (wpAny_askSetting (wpAny_ite ?_))
  split
  · first
      | exact wpAny_bind (wpAny_pure (wpAny_pure (And.intro rfl h0)))
      | exact wpAny_pure (And.intro rfl h0)
  · first
      | exact wpAny_bind (wpAny_rule (wpAny_bind (wpAny_standAt (wpAny_bind (wpAny_mono h (fun it' s' h' => wpAny_pure (And.intro rfl h')) fun _ _ x => x)))))
      | (refine wpAny_bind (wpAny_rule ?_); show wpAny _ _ (standAt i1.pos >>= _) _ _ s; exact wpAny_bind (wpAny_standAt (wpAny_bind (wpAny_mono h (fun it' s' h' => wpAny_pure (And.intro rfl h')) fun _ _ x => x))))
end
theorem wipe_out {σ : St} {i : Nat} : ∀ {vs : List Nat}, i ∉ vs → (wipe σ vs)[i]? = σ[i]?
  | [], _ => rfl
  | v :: vs, h => by
    have h1 : v ≠ i := fun e => h (by rw [e]; exact List.mem_cons_self)
    have h2 : i ∉ vs := fun m => h (List.mem_cons_of_mem _ m)
    unfold wipe
    rw [List.getElem?_set_ne h1]
    exact wipe_out h2
section
variable {X : Cx}
def tLc2 (wi : TI) (g : TG) (tt : TT) (wi1 : TI) (g1 : TG) (tt1 : TT) (te : TE) (vs vs1 : List Nat) : TE := fun σ H Q => wi σ H fun J H1 => ∀ D, H1 D = none → ∃ W : Nat → Nat → Hp → Prop, (∃ m, W 0 m (upd H1 D (.lst []))) ∧ ∀ i m H, W i m H →
  (J.stop i H ∧ Q (.ref D) H) ∨ (J.go i H ∧ ∃ Nx : Hp → Prop, (∀ H', Nx H' → ∃ m', m' < m ∧ W (i + 1) m' H') ∧ ∀ x H', J.yld i H x H' → g x (wipe σ vs) H' fun σ2 H2 => wipe σ2 vs = wipe σ vs ∧ tt σ2 H2 fun b H3 =>
    if b = true then wi1 σ2 H3 fun J1 H4 => ∃ W1 : Nat → Nat → Hp → Prop, (∃ m, W1 0 m H4) ∧ ∀ j k H, W1 j k H →
      (J1.stop j H ∧ Nx H) ∨ (J1.go j H ∧ ∃ Nx1 : Hp → Prop, (∀ H', Nx1 H' → ∃ k', k' < k ∧ W1 (j + 1) k' H') ∧ ∀ x H', J1.yld j H x H' → g1 x (wipe σ2 vs1) H' fun σ3 H5 => wipe σ3 vs1 = wipe σ2 vs1 ∧ tt1 σ3 H5 fun b H6 =>
        if b = true then te σ3 H6 fun y H7 => ∃ acc, H7 D = some (.lst acc) ∧ acc.length < sizeLine ∧ Nx1 (upd H7 D (.lst (acc ++ [y]))) else Nx1 H6)
    else Nx H3)
theorem lc2_core {pins : List (Addr × Obj)} {s : Shared} {σ : St} {H : Hp} {Q : VK} {elt tg iter tg1 iter1 : Expr} {ifs ifs1 : List Expr} {scope : Scope} {own : List (Str × Nat)} {vs1 : List Nat} {pos pos' : Pos} {wi wi1 : TI} {g g1 : TG} {tt tt1 : TT} {te : TE} {use : Option (Value → Sem Unit)} {Qf : Value → Shared → Prop}
    (hc : X.calm = true) (hN : X.N.Nodup) (I : Inv X pins σ H s) (hi : PI X tg iter wi) (ok : BlkOk X.N X.env.scope scope own) (hv : ∀ i ∈ vs1, i ∈ own.map (·.2))
    (hg : ∀ (s : Shared) (H : Hp) (C : Addr) (cl : List (Str × Addr)) (fp : List Addr), PG (X.blk s H scope (compEnvC scope cl C X.env) fp) tg g) (ht : ∀ (s : Shared) (H : Hp) (C : Addr) (cl : List (Str × Addr)) (fp : List Addr), PTs (X.blk s H scope (compEnvC scope cl C X.env) fp) ifs tt)
    (he : ∀ (s : Shared) (H : Hp) (C : Addr) (cl : List (Str × Addr)) (fp : List Addr), PE (X.blk s H scope (compEnvC scope cl C X.env) fp) elt te) (hs : ∀ x, foldedSetIterable iter X.env x = pure x)
    (hi1 : ∀ (s : Shared) (H : Hp) (C : Addr) (cl : List (Str × Addr)) (fp : List Addr), PI (X.blk s H scope (compEnvC scope cl C X.env) fp) tg1 iter1 wi1)
    (hg1 : ∀ (s : Shared) (H : Hp) (C : Addr) (cl : List (Str × Addr)) (fp : List Addr), PG (X.blk s H scope (compEnvC scope cl C X.env) fp) tg1 g1)
    (ht1 : ∀ (s : Shared) (H : Hp) (C : Addr) (cl : List (Str × Addr)) (fp : List Addr), PTs (X.blk s H scope (compEnvC scope cl C X.env) fp) ifs1 tt1)
    (hs1 : ∀ env x, foldedSetIterable iter1 env x = pure x)
    (h : tLc2 wi g tt wi1 g1 tt1 te (own.map (·.2)) vs1 σ H Q)
    (hRR : ∀ D C s' m H', Inv X pins σ H' s' → Q (.ref D) H' → s'.heap.Ns C m → FpOk X pins H' C → compPost (model X.prog X.w) X.A X.xe use Qf (.ref D) C (.ok .next) s') :
    wpAny (model X.prog X.w) X.A (comprehension (.ListComp elt [⟨tg, iter, ifs, 0⟩, ⟨tg1, iter1, ifs1, 0⟩] scope pos) scope X.env pos' (newList []) false (eval iter X.env) use) Qf X.xe s := by
  have hfree : ∀ y ∈ scope.names, y.2 = .free → ∃ c, X.env.cells.lookup y.1 = some c := fun y hy e => by
    rcases ok.free y hy e with k | k
    · exact I.ok.has _ (.inl k)
    · exact I.ok.has _ (.inr k)
  refine wpAny_comprehension_free (use := use) rfl hs (closure_ok hfree) ok.kind (fun y hy e => by rw [ok.uniq y hy, e])
    (thn (hi pins s σ H _ I h) fun xv s1 hx => thn hx fun itv s2 h2 => ?_)
  obtain ⟨it, fp, tn, J, H2, e, I2, T, st2, f2, q⟩ := h2
  subst e
  refine wpAny_newObj_type (newEnv_comp ?_) (by show 0 ≤ sizeLine; decide)
  generalize hD : s2.heap.objs.size = D
  have hDn : H2 D = none := I2.hok.fresh (Nat.le_of_eq hD)
  obtain ⟨W, ⟨m0, w0⟩, turn⟩ := q D hDn
  -- the new list
  generalize hs3 : ({ s2 with heap := s2.heap.push { cls := .type "list", data := .seq ([] : List Value).toArray } } : Shared) = s3
  have I3 : Inv X pins σ (upd H2 D (.lst [])) s3 := by
    rw [← hs3]
    refine I2.laid (t' := s2.toks) (fun b o e => Heap.get?_push_of_some _ e) (Nat.le_of_eq hD) ⟨Nat.zero_le _, [], 0, .nil, ?_⟩
    rw [← hD]
    exact Heap.get?_push_size _ rfl
  have h3 : s3.heap = s2.heap.push { cls := .type "list", data := .seq ([] : List Value).toArray } := by rw [← hs3]
  have sz : ∀ b ∈ fp, b < s2.heap.objs.size := fun b hb => by
    obtain ⟨o, e, _⟩ := T.obj _ _ st2 b hb
    exact Heap.lt_size e
  have f3 : ∀ b ∈ fp, FpOk X pins (upd H2 D (.lst [])) b ∧ b < s3.heap.objs.size := fun b hb => by
    have hlt := sz b hb
    refine ⟨⟨?_, (f2 b hb).2⟩, by rw [h3, Heap.size_push]; exact Nat.lt_succ_of_lt hlt⟩
    rw [upd_ne (by rw [← hD]; exact Nat.ne_of_lt hlt)]
    exact (f2 b hb).1
  have st3 : tn 0 s3.heap := T.keep _ _ _ st2 fun b _ o e => by rw [h3]; exact Heap.get?_push_of_some _ e
  have I4 := block_start I3 ok hN f3
  have pg := hg s3 (upd H2 D (.lst [])) s3.heap.objs.size (cellsFrom (s3.heap.objs.size + 1) scope.names (cloFrom X.env.cells scope.names [])) fp
  have pt := ht s3 (upd H2 D (.lst [])) s3.heap.objs.size (cellsFrom (s3.heap.objs.size + 1) scope.names (cloFrom X.env.cells scope.names [])) fp
  have pe := he s3 (upd H2 D (.lst [])) s3.heap.objs.size (cellsFrom (s3.heap.objs.size + 1) scope.names (cloFrom X.env.cells scope.names [])) fp
  have pi1 := hi1 s3 (upd H2 D (.lst [])) s3.heap.objs.size (cellsFrom (s3.heap.objs.size + 1) scope.names (cloFrom X.env.cells scope.names [])) fp
  have pg1 := hg1 s3 (upd H2 D (.lst [])) s3.heap.objs.size (cellsFrom (s3.heap.objs.size + 1) scope.names (cloFrom X.env.cells scope.names [])) fp
  have pt1 := ht1 s3 (upd H2 D (.lst [])) s3.heap.objs.size (cellsFrom (s3.heap.objs.size + 1) scope.names (cloFrom X.env.cells scope.names [])) fp
  show codeAny _ _ (.compStart (.ListComp elt [⟨tg, iter, ifs, 0⟩, ⟨tg1, iter1, ifs1, 0⟩] scope pos) 0 (.ref it) (.ref D) (compEnvC scope (cellsFrom (s3.heap.objs.size + 1) scope.names (cloFrom X.env.cells scope.names [])) s3.heap.objs.size X.env)) (compPost (model X.prog X.w) X.A X.xe use Qf (.ref D) s3.heap.objs.size) { s3 with heap := pushCells (s3.heap.push { cls := .type "dict", data := .dict #[] }) scope.names }
  have nfp : ∀ b ∈ fp, (upd H2 D (.lst [])) b = none := fun b hb => (f3 b hb).1.1
  generalize hce : compEnvC scope (cellsFrom (s3.heap.objs.size + 1) scope.names (cloFrom X.env.cells scope.names [])) s3.heap.objs.size X.env = ce at I4 pg pt pe pi1 pg1 pt1 ⊢
  have cL : ce.locals = s3.heap.objs.size := by subst hce; rfl
  generalize hH3 : upd H2 D (.lst []) = H3 at I3 I4 pg pt pe pi1 pg1 pt1 w0 nfp f3
  generalize hs4 : ({ s3 with heap := pushCells (s3.heap.push { cls := .type "dict", data := .dict #[] }) scope.names } : Shared) = s4 at I4 ⊢
  have st4 : tn 0 s4.heap := T.keep _ _ _ st3 fun b _ o e => by rw [← hs4]; exact pushCells_keeps _ _ _ _ (Heap.get?_push_of_some _ e)
  have stat : ∀ {σ' : St} {H' : Hp} {s' : Shared}, Inv (X.blk s3 H3 scope ce fp) [] σ' H' s' → (∀ b ∈ fp, H' b = none) → ∀ b ∈ fp, FpOk (X.blk s3 H3 scope ce fp) [] H' b := fun {σ' H' s'} I' hn b hb =>
    ⟨hn b hb, (I'.ok.exf b hb).1, I'.ok.exfs b hb, .inl hb, fun x c e => (I'.ok.exf b hb).2 x c e, fun p hp => absurd (show p ∈ ([] : List (Addr × Obj)) ++ [] from hp) (by simp)⟩
  have loop : codeAny (model X.prog X.w) X.A (.compLoop (.ListComp elt [⟨tg, iter, ifs, 0⟩, ⟨tg1, iter1, ifs1, 0⟩] scope pos) 0 (.ref it) (.ref D) ce) (compPost (model X.prog X.w) X.A X.xe use Qf (.ref D) s3.heap.objs.size) s4 := by
    refine compLoop2_out (hs1 ce) (fun n s' => ∃ i H', Inv (X.blk s3 H3 scope ce fp) [] (wipe σ (own.map (·.2))) H' s' ∧ tn i s'.heap ∧ (∀ b ∈ fp, H' b = none) ∧ W i n H') ?_ m0 ⟨0, H3, I4, st4, nfp, w0⟩
    rintro n s5 ⟨i, H5, I5, st5, n5, w5⟩
    rcases turn i n H5 w5 with ⟨stop, qq⟩ | ⟨go, Nx, hNx, step⟩
    · have td := T.done (X.blk s3 H3 scope ce fp) rfl rfl rfl hc i [] s5 _ H5 (fun _ _ => False) I5 (stat I5 n5) st5 stop
      refine thnF td fun r s6 ⟨hr, I6⟩ => ?_
      subst hr
      -- back in the def's context
      have I7 : Inv X pins σ H5 s6 := I3.call' (ch := fp) I6.os I6.base I6.hok I6.bare fun b hb => ⟨(f3 b hb).1.2.2.2.1, (f3 b hb).1.2.1, (f3 b hb).1.2.2.2.2.1, (f3 b hb).1.2.2.2.2.2⟩
      have nC : H5 s3.heap.objs.size = none := by
        have z : H5 ce.locals = none := I6.free
        rw [cL] at z
        exact z
      obtain ⟨m, hn, _⟩ := I6.loc
      have hn : s6.heap.Ns ce.locals m := hn
      rw [cL] at hn
      exact hRR D s3.heap.objs.size s6 m H5 I7 qq hn (I3.fpOk (Nat.le_refl _) nC)
    · have ti := T.item (X.blk s3 H3 scope ce fp) rfl rfl rfl hc i [] s5 _ H5 (fun _ _ => False) I5 (stat I5 n5) st5 go
      refine thnF ti fun r s6 ⟨u, hr, h6⟩ => ?_
      subst hr
      refine thnF h6 fun _ s7 ⟨x, H7, I7, r7, y7, st7, n7⟩ => ?_
      have I7' := I7.pinned (stat I7 n7) (T.obj _ _ st7)
      refine thnF (pg _ s7 _ H7 x u _ I7' r7 (step x H7 y7)) fun _ s8 ⟨σ8, H8, I8, hw8, q8⟩ => ?_
      refine thnF (pt _ s8 σ8 H8 _ I8 q8) fun b s9 ⟨H9, I9, q9⟩ => ?_
      -- the turn's end, from any slots that know what the block knew at its start
      have fin : ∀ {σ9 : St} {s' : Shared} {H' : Hp}, Inv (X.blk s3 H3 scope ce fp) ([] ++ pinsAt fp s7.heap) σ9 H' s' → (wipe σ (own.map (·.2))).length = σ9.length → (∀ (j : Nat) v, (wipe σ (own.map (·.2)))[j]? = some (some v) → σ9[j]? = some (some v)) → Nx H' →
          ∃ m, m < n ∧ ∃ i H', Inv (X.blk s3 H3 scope ce fp) [] (wipe σ (own.map (·.2))) H' s' ∧ tn i s'.heap ∧ (∀ b ∈ fp, H' b = none) ∧ W i m H' := fun {σ9 s' H'} I' hl hk nx => by
        obtain ⟨m', hm, w'⟩ := hNx H' nx
        have pin' : ∀ b ∈ fp, ∀ o, s7.heap.get? b = some o → s'.heap.get? b = some o ∧ H' b = none := fun b hb o e =>
          let z := I'.pin (b, o) (List.mem_append_right _ (List.mem_append_right _ (mem_pinsAt hb e)))
          ⟨z.1, z.2.1⟩
        refine ⟨m', hm, i + 1, H', (I'.unpinned (pins := [])).weak hl hk, T.keep _ _ _ st7 fun b hb o e => (pin' b hb o e).1, fun b hb => ?_, w'⟩
        obtain ⟨o, e, _⟩ := T.obj _ _ st7 b hb
        exact (pin' b hb o e).2
      have hl8 : (wipe σ (own.map (·.2))).length = σ8.length := by rw [← hw8, wipe_length]
      have hk8 : ∀ (j : Nat) v, (wipe σ (own.map (·.2)))[j]? = some (some v) → σ8[j]? = some (some v) := fun j v e => by
        rw [← hw8] at e
        exact (wipe_some e).1
      have hk9 : ∀ (j : Nat) v, (wipe σ (own.map (·.2)))[j]? = some (some v) → (wipe σ8 vs1)[j]? = some (some v) := fun j v e => by
        rw [← hw8] at e
        obtain ⟨e1, e2⟩ := wipe_some e
        rw [wipe_out fun z => e2 (hv j z)]
        exact e1
      cases b with
      | false =>
        simp only [Bool.false_eq_true, if_false] at q9 ⊢
        exact fin I9 hl8 hk8 q9
      | true =>
        simp only [if_true] at q9 ⊢
        refine thnF (pi1 _ s9 σ8 H9 _ I9 q9) fun xv s10 hx => thnF hx fun itv s11 h11 => ?_
        obtain ⟨it1, fp1, tn1, J1, H11, e1, I11, T1, st11, f11, W1, ⟨m1, w1⟩, turn1⟩ := h11
        subst e1
        -- the inner loop
        have stat1 : ∀ {H' : Hp}, (∀ b ∈ fp1, H' b = none) → ∀ b ∈ fp1, FpOk (X.blk s3 H3 scope ce fp) ([] ++ pinsAt fp s7.heap) H' b := fun hn b hb => ⟨hn b hb, (f11 b hb).2⟩
        have loop1 : codeAny (model X.prog X.w) X.A (.compLoop (.ListComp elt [⟨tg, iter, ifs, 0⟩, ⟨tg1, iter1, ifs1, 0⟩] scope pos) 1 (.ref it1) (.ref D) ce)
            (fun r s' => match r with
              | .ok _ => ∃ m, m < n ∧ ∃ i H', Inv (X.blk s3 H3 scope ce fp) [] (wipe σ (own.map (·.2))) H' s' ∧ tn i s'.heap ∧ (∀ b ∈ fp, H' b = none) ∧ W i m H'
              | .error _ => False) s11 := by
          refine compLoop2_in (fun k s' => ∃ j H', Inv (X.blk s3 H3 scope ce fp) ([] ++ pinsAt fp s7.heap) (wipe σ8 vs1) H' s' ∧ tn1 j s'.heap ∧ (∀ b ∈ fp1, H' b = none) ∧ W1 j k H') ?_ m1 ⟨0, H11, I11.weak (wipe_length _ _) (fun j v e => (wipe_some e).1), st11, fun b hb => (f11 b hb).1, w1⟩
          rintro k s12 ⟨j, H12, I12, st12, n12, w12⟩
          rcases turn1 j k H12 w12 with ⟨stop1, nx1⟩ | ⟨go1, Nx1, hNx1, step1⟩
          · refine thnF (T1.done (X.blk s3 H3 scope ce fp) rfl rfl rfl hc j _ s12 (wipe σ8 vs1) H12 (fun _ _ => False) I12 (stat1 n12) st12 stop1) fun r s13 ⟨hr, I13⟩ => ?_
            subst hr
            exact fin I13 (hl8.trans (wipe_length σ8 vs1).symm) hk9 nx1
          · refine thnF (T1.item (X.blk s3 H3 scope ce fp) rfl rfl rfl hc j _ s12 (wipe σ8 vs1) H12 (fun _ _ => False) I12 (stat1 n12) st12 go1) fun r s13 ⟨u1, hr, h13⟩ => ?_
            subst hr
            refine thnF h13 fun _ s14 ⟨x1, H14, I14, r14, y14, st14, n14⟩ => ?_
            have I14' := I14.pinned (stat1 n14) (T1.obj _ _ st14)
            refine thnF (pg1 _ s14 (wipe σ8 vs1) H14 x1 u1 _ I14' r14 (step1 x1 H14 y14)) fun _ s15 ⟨σ15, H15, I15, hw15, q15⟩ => ?_
            refine thnF (pt1 _ s15 σ15 H15 _ I15 q15) fun b1 s16 ⟨H16, I16, q16⟩ => ?_
            have fin1 : ∀ {s' : Shared} {H' : Hp}, Inv (X.blk s3 H3 scope ce fp) (([] ++ pinsAt fp s7.heap) ++ pinsAt fp1 s14.heap) σ15 H' s' → Nx1 H' → ∃ m, m < k ∧ ∃ j H', Inv (X.blk s3 H3 scope ce fp) ([] ++ pinsAt fp s7.heap) (wipe σ8 vs1) H' s' ∧ tn1 j s'.heap ∧ (∀ b ∈ fp1, H' b = none) ∧ W1 j m H' := fun {s' H'} I' nx => by
              obtain ⟨m', hm, w'⟩ := hNx1 H' nx
              have pin' : ∀ b ∈ fp1, ∀ o, s14.heap.get? b = some o → s'.heap.get? b = some o ∧ H' b = none := fun b hb o e =>
                let z := I'.pin (b, o) (List.mem_append_right _ (List.mem_append_right _ (mem_pinsAt hb e)))
                ⟨z.1, z.2.1⟩
              refine ⟨m', hm, j + 1, H', I'.unpinned.weak (by rw [← hw15, wipe_length]) (fun j v e => by rw [← hw15] at e; exact (wipe_some e).1), T1.keep _ _ _ st14 fun b hb o e => (pin' b hb o e).1, fun b hb => ?_, w'⟩
              obtain ⟨o, e, _⟩ := T1.obj _ _ st14 b hb
              exact (pin' b hb o e).2
            cases b1 with
            | false =>
              simp only [Bool.false_eq_true, if_false] at q16 ⊢
              exact fin1 I16 q16
            | true =>
              simp only [if_true] at q16 ⊢
              refine thnF (pe _ s16 σ15 H16 _ I16 q16) fun z s17 ⟨yv, H17, I17, r17, acc, hD17, hz17, nx⟩ => ?_
              exact app_ok (X := X.blk s3 H3 scope ce fp) I17 hD17 hz17 r17 fun s18 I18 => fin1 I18 nx
        exact compStart1_ok loop1 (T1.self X.A 0 _ _ _ st11 loop1)
  exact codeAny_compStart_list loop (T.self X.A 0 _ _ _ st4 loop)
theorem pe_lc2 {elt tg iter tg1 iter1 : Expr} {ifs ifs1 : List Expr} {scope : Scope} {own : List (Str × Nat)} {vs1 : List Nat} {pos : Pos} {wi wi1 : TI} {g g1 : TG} {tt tt1 : TT} {te : TE} (hc : X.calm = true) (hN : X.N.Nodup) (hi : PI X tg iter wi) (ok : BlkOk X.N X.env.scope scope own) (hv : ∀ i ∈ vs1, i ∈ own.map (·.2))
    (hg : ∀ (s : Shared) (H : Hp) (C : Addr) (cl : List (Str × Addr)) (fp : List Addr), PG (X.blk s H scope (compEnvC scope cl C X.env) fp) tg g) (ht : ∀ (s : Shared) (H : Hp) (C : Addr) (cl : List (Str × Addr)) (fp : List Addr), PTs (X.blk s H scope (compEnvC scope cl C X.env) fp) ifs tt)
    (hi1 : ∀ (s : Shared) (H : Hp) (C : Addr) (cl : List (Str × Addr)) (fp : List Addr), PI (X.blk s H scope (compEnvC scope cl C X.env) fp) tg1 iter1 wi1)
    (hg1 : ∀ (s : Shared) (H : Hp) (C : Addr) (cl : List (Str × Addr)) (fp : List Addr), PG (X.blk s H scope (compEnvC scope cl C X.env) fp) tg1 g1) (ht1 : ∀ (s : Shared) (H : Hp) (C : Addr) (cl : List (Str × Addr)) (fp : List Addr), PTs (X.blk s H scope (compEnvC scope cl C X.env) fp) ifs1 tt1)
    (he : ∀ (s : Shared) (H : Hp) (C : Addr) (cl : List (Str × Addr)) (fp : List Addr), PE (X.blk s H scope (compEnvC scope cl C X.env) fp) elt te) (hs : ∀ x, foldedSetIterable iter X.env x = pure x := by intro _; rfl) (hs1 : ∀ env x, foldedSetIterable iter1 env x = pure x := by intro _ _; rfl) :
    PE X (.ListComp elt [⟨tg, iter, ifs, 0⟩, ⟨tg1, iter1, ifs1, 0⟩] scope pos) (tLc2 wi g tt wi1 g1 tt1 te (own.map (·.2)) vs1) := by
  refine ⟨?_⟩
  intro pins s σ H Q I h
  rw [eval_ListComp]
  refine lc2_core hc hN I hi ok hv hg ht he hs hi1 hg1 ht1 hs1 h fun D C s' m H' I' q hn f => ⟨m, hn, fun h'' sb => ?_⟩
  obtain ⟨f0, f1, f2, f3, f4, f5⟩ := f
  exact ⟨.ref D, H', I'.turned (t' := s'.toks) (fun b o hb e => (sb.2 b hb).trans e) f0 f1 f3 f4 f5, rfl, q⟩
end
end L2
namespace L2
open PySem PySem.Spec PyProof.Rows
section
variable {κ : Type} [DecidableEq κ]
def valV (kvs : List (κ × V)) (k : κ) : Option V := (kvs.find? fun kv => decide (kv.1 = k)).map (·.2)
def putK (kvs : List (κ × V)) (k : κ) (v : V) : List (κ × V) :=
  if (kvs.any fun kv => decide (kv.1 = k)) = true then kvs.map (fun kv => if kv.1 = k then (kv.1, v) else kv) else kvs ++ [(k, v)]
def dropK (kvs : List (κ × V)) (k : κ) : List (κ × V) := kvs.filter fun kv => decide (kv.1 ≠ k)
theorem valV_nil {k : κ} : valV ([] : List (κ × V)) k = none := rfl
theorem valV_pos {p : κ × V} {r : List (κ × V)} {k : κ} (e : p.1 = k) : valV (p :: r) k = some p.2 := by simp [valV, List.find?_cons, e]
theorem valV_neg {p : κ × V} {r : List (κ × V)} {k : κ} (e : ¬ p.1 = k) : valV (p :: r) k = valV r k := by simp [valV, List.find?_cons, e]
theorem valV_any (k : κ) : ∀ kvs : List (κ × V), (kvs.any fun kv => decide (kv.1 = k)) = (valV kvs k).isSome
  | [] => rfl
  | p :: r => by
    rw [List.any_cons]
    by_cases e : p.1 = k
    · simp only [valV_pos e, decide_eq_true e, Bool.true_or, Option.isSome_some]
    · rw [valV_neg e, decide_eq_false e, Bool.false_or]; exact valV_any k r
theorem length_putK (kvs : List (κ × V)) (k : κ) (v : V) : (putK kvs k v).length ≤ kvs.length + 1 := by
  unfold putK
  split
  · rw [List.length_map]; omega
  · rw [List.length_append, List.length_cons, List.length_nil]; omega
theorem putK_new {kvs : List (κ × V)} {k : κ} (v : V) (h : valV kvs k = none) : putK kvs k v = kvs ++ [(k, v)] := by
  unfold putK
  rw [valV_any, h]
  exact if_neg (by decide)
theorem RelO.isSome_eq {o : Option V} {u : Option Value} (r : RelO o u) : o.isSome = u.isSome := by
  cases o with
  | none => cases u with
    | none => rfl
    | some _ => exact (show False from r).elim
  | some _ => cases u with
    | none => exact (show False from r).elim
    | some _ => rfl
theorem RelO.getD {o : Option V} {u : Option Value} {d : V} {d' : Value} (r : RelO o u) (rd : RelV d d') : RelV (o.getD d) (u.getD d') := by
  cases o with
  | none => cases u with
    | none => exact rd
    | some _ => exact (show False from r).elim
  | some _ => cases u with
    | none => exact (show False from r).elim
    | some _ => exact r
theorem KV.val {kvs : List (κ × V)} {vs : List (κ × Value)} (r : KV kvs vs) (k : κ) : RelO (valV kvs k) (valueAt vs k) := by
  unfold KV at r
  induction r with
  | nil => exact True.intro
  | @cons p q ps qs h t ih =>
    obtain ⟨h1, h2⟩ := h
    by_cases e : p.1 = k
    · have e' : q.1 = k := h1.symm.trans e
      have b : valueAt (q :: qs) k = some q.2 := by simp [valueAt, List.find?_cons, e']
      rw [valV_pos e, b]; exact h2
    · have e' : ¬ q.1 = k := fun z => e (h1.trans z)
      have b : valueAt (q :: qs) k = valueAt qs k := by simp [valueAt, List.find?_cons, e']
      rw [valV_neg e, b]; exact ih
theorem KV.any {kvs : List (κ × V)} {vs : List (κ × Value)} (r : KV kvs vs) (k : κ) : (kvs.any fun kv => decide (kv.1 = k)) = vs.any fun kv => decide (kv.1 = k) := by
  unfold KV at r
  induction r with
  | nil => rfl
  | cons h t ih => rw [List.any_cons, List.any_cons, ih, h.1]
theorem KV.repl {kvs : List (κ × V)} {vs : List (κ × Value)} (r : KV kvs vs) (k : κ) {y : V} {u : Value} (ry : RelV y u) :
    KV (kvs.map fun kv => if kv.1 = k then (kv.1, y) else kv) (vs.map fun kv => if kv.1 = k then (kv.1, u) else kv) := by
  unfold KV at r ⊢
  induction r with
  | nil => exact .nil
  | @cons p q ps qs h t ih =>
    rw [List.map_cons, List.map_cons]
    refine .cons ?_ ih
    obtain ⟨h1, h2⟩ := h
    by_cases e : p.1 = k
    · rw [if_pos e, if_pos (h1.symm.trans e)]; exact ⟨h1, ry⟩
    · rw [if_neg e, if_neg (fun z => e (h1.trans z))]; exact ⟨h1, h2⟩
theorem KV.put {kvs : List (κ × V)} {vs : List (κ × Value)} (r : KV kvs vs) (k : κ) {y : V} {u : Value} (ry : RelV y u) : KV (putK kvs k y) (stored vs k u) := by
  unfold putK stored
  rw [r.any k]
  by_cases e : (vs.any fun kv => decide (kv.1 = k)) = true
  · rw [if_pos e, if_pos e]; exact r.repl k ry
  · rw [if_neg e, if_neg e]; exact Paired.snoc r ⟨rfl, ry⟩
theorem KV.drop {kvs : List (κ × V)} {vs : List (κ × Value)} (r : KV kvs vs) (k : κ) : KV (dropK kvs k) (without vs k) := by
  unfold KV at r ⊢
  unfold dropK without
  induction r with
  | nil => exact .nil
  | @cons p q ps qs h t ih =>
    obtain ⟨h1, h2⟩ := h
    rw [List.filter_cons, List.filter_cons]
    by_cases e : p.1 = k
    · have a : ¬ decide (p.1 ≠ k) = true := by simp [e]
      have b : ¬ decide (q.1 ≠ k) = true := by simp [h1.symm.trans e]
      rw [if_neg a, if_neg b]; exact ih
    · have e' : ¬ q.1 = k := fun z => e (h1.trans z)
      have a : decide (p.1 ≠ k) = true := by simp [e]
      have b : decide (q.1 ≠ k) = true := by simp [e']
      rw [if_pos a, if_pos b]; exact .cons ⟨h1, h2⟩ ih
theorem KV.keys {kvs : List (κ × V)} {vs : List (κ × Value)} (r : KV kvs vs) : kvs.map (·.1) = vs.map (·.1) := by
  unfold KV at r
  induction r with
  | nil => rfl
  | cons h t ih => rw [List.map_cons, List.map_cons, ih, h.1]
theorem KV.length {kvs : List (κ × V)} {vs : List (κ × Value)} (r : KV kvs vs) : kvs.length = vs.length := Paired.length r
end
theorem kV_is {P : Program} {w : World} {k : Key} {u : Value} (r : RelV (kV k) u) : (mixKind P w).is k u = true := by
  cases k with
  | inl i => obtain ⟨t, e⟩ := (show ∃ t, u = Value.int i t from r); subst e; exact mixKind_int P w i t
  | inr x => obtain ⟨t, e⟩ := (show ∃ t, u = Value.str x t from r); subst e; exact mixKind_str P w x t
theorem items_are {P : Program} {w : World} : ∀ {ks : List Key} {us : List Value}, Vals (ks.map kV) us → ItemsAre (mixKind P w) ks us
  | [], _, r => by rw [List.map_nil] at r; cases r; exact .nil
  | k :: ks, _, r => by
    rw [List.map_cons] at r
    cases r with
    | cons h t => exact .cons (kV_is h) (items_are t)
abbrev KT (H : Hp) : List (List Key × V) → List (List Key × Addr × Value) → Prop := Paired fun p q => p.1 = q.1 ∧ H q.2.1 = some (.tup (p.1.map kV)) ∧ RelV p.2 q.2.2
theorem KT.val {H : Hp} {kvs : List (List Key × V)} {xs : List (List Key × Addr × Value)} (r : KT H kvs xs) (k : List Key) : RelO (valV kvs k) ((atKey xs k).map (·.2)) := by
  induction r with
  | nil => exact True.intro
  | @cons p q ps qs h t ih =>
    obtain ⟨h1, _, h2⟩ := h
    by_cases e : p.1 = k
    · have e' : q.1 = k := h1.symm.trans e
      have b : atKey (q :: qs) k = some q.2 := by simp [atKey, List.find?_cons, e']
      rw [valV_pos e, b]; exact h2
    · have e' : ¬ q.1 = k := fun z => e (h1.trans z)
      have b : atKey (q :: qs) k = atKey qs k := by simp [atKey, List.find?_cons, e']
      rw [valV_neg e, b]; exact ih
theorem KT.repl {H : Hp} {kvs : List (List Key × V)} {xs : List (List Key × Addr × Value)} (r : KT H kvs xs) (k : List Key) {y : V} {u : Value} (ry : RelV y u) :
    KT H (kvs.map fun kv => if kv.1 = k then (kv.1, y) else kv) (xs.map (putAt k u)) := by
  induction r with
  | nil => exact .nil
  | @cons p q ps qs h t ih =>
    rw [List.map_cons, List.map_cons]
    refine .cons ?_ ih
    obtain ⟨h1, h2, h3⟩ := h
    unfold putAt
    by_cases e : p.1 = k
    · rw [if_pos e, if_pos (h1.symm.trans e)]; exact ⟨h1, h2, ry⟩
    · rw [if_neg e, if_neg (fun z => e (h1.trans z))]; exact ⟨h1, h2, h3⟩
theorem KT.put {H : Hp} {kvs : List (List Key × V)} {xs : List (List Key × Addr × Value)} (r : KT H kvs xs) (k : List Key) {b : Addr} {y : V} {u : Value} (hb : H b = some (.tup (k.map kV))) (ry : RelV y u) :
    KT H (putK kvs k y) (storedH xs k b u) := by
  have e : (kvs.any fun kv => decide (kv.1 = k)) = (atKey xs k).isSome := by
    rw [valV_any, (r.val k).isSome_eq, Option.isSome_map]
  unfold putK storedH
  rw [e]
  by_cases q : (atKey xs k).isSome = true
  · rw [if_pos q, if_pos q]; exact r.repl k ry
  · rw [if_neg q, if_neg q]; exact Paired.snoc r ⟨rfl, hb, ry⟩
theorem KT.keeps {H H' : Hp} {kvs : List (List Key × V)} {xs : List (List Key × Addr × Value)} (r : KT H kvs xs) (ht : ∀ b ys, H b = some (.tup ys) → H' b = some (.tup ys)) : KT H' kvs xs :=
  Paired.mapP r fun _ _ z => ⟨z.1, ht _ _ z.2.1, z.2.2⟩
section
variable {P : Program} {w : World} {H : Hp} {h : Heap} {a : Addr}
theorem rd_of {u : HO} (ok : HOk P w H h) (e : Rd H a u) : ObjOk P w H h a u := e.ok ok
theorem dk_rd {kvs : List (Key × V)} (ok : HOk P w H h) (e : Rd H a (.dK kvs)) : kvs.length ≤ sizeLine ∧ (a == sysModules) = false ∧ ∃ vs, KV kvs vs ∧ h.DictOf (mixKind P w) a vs :=
  show ObjOk P w H h a (.dK kvs) from rd_of ok e
theorem dk_of {kvs : List (Key × V)} (ok : HOk P w H h) (e : H a = some (.dK kvs)) : kvs.length ≤ sizeLine ∧ (a == sysModules) = false ∧ ∃ vs, KV kvs vs ∧ h.DictOf (mixKind P w) a vs := dk_rd ok (.inl e)
theorem key_of {ks : List Key} (ok : HOk P w H h) (e : H a = some (.tup (ks.map kV))) : (tupleKind (mixKind P w)).is h ks a := by
  obtain ⟨_, its, r, o, h1, h2, n, h3⟩ := (show ObjOk P w H h a (.tup (ks.map kV)) from ok a _ e)
  exact ⟨o, its.toArray, n, h1, h2, h3, by simpa using items_are r⟩
theorem dt_rd {kvs : List (List Key × V)} (ok : HOk P w H h) (e : Rd H a (.dT kvs)) : kvs.length ≤ sizeLine ∧ (a == sysModules) = false ∧
    ∃ xs, KT H kvs xs ∧ h.DictOfH (tupleKind (mixKind P w)) a xs := by
  obtain ⟨z, y, xs, r, o, es, ep, h1, h2, h3, h4, h5⟩ := (show ObjOk P w H h a (.dT kvs) from rd_of ok e)
  refine ⟨z, y, xs, r, o, es, ep, h1, h2, h3, h4, fun x hx => ?_, h5⟩
  have all : ∀ {l : List (List Key × V)} {m : List (List Key × Addr × Value)}, KT H l m → ∀ x ∈ m, (tupleKind (mixKind P w)).is h x.1 x.2.1 := by
    intro l m q
    induction q with
    | nil => intro x hx; exact nomatch hx
    | @cons p q ps qs hq t ih =>
      intro x hx
      rcases List.mem_cons.mp hx with e | hx
      · subst e
        exact key_of ok (by rw [← hq.1]; exact hq.2.1)
      · exact ih x hx
  exact all r x hx
theorem dt_of {kvs : List (List Key × V)} (ok : HOk P w H h) (e : H a = some (.dT kvs)) : kvs.length ≤ sizeLine ∧ (a == sysModules) = false ∧
    ∃ xs, KT H kvs xs ∧ h.DictOfH (tupleKind (mixKind P w)) a xs := dt_rd ok (.inl e)
end
def DGet (H : Hp) (a : Addr) (y : V) (r : Option V) : Prop :=
  (∃ kvs k, Rd H a (.dK kvs) ∧ y = kV k ∧ r = valV kvs k) ∨ ∃ kvs k b, Rd H a (.dT kvs) ∧ y = .ref b ∧ H b = some (.tup (k.map kV)) ∧ r = valV kvs k
def DPut (H : Hp) (a : Addr) (y v : V) (H' : Hp) : Prop :=
  (∃ kvs k, H a = some (.dK kvs) ∧ y = kV k ∧ kvs.length < sizeLine ∧ H' = upd H a (.dK (putK kvs k v))) ∨
  ∃ kvs k b, H a = some (.dT kvs) ∧ y = .ref b ∧ H b = some (.tup (k.map kV)) ∧ kvs.length < sizeLine ∧ H' = upd H a (.dT (putK kvs k v))
theorem DGet.k {H : Hp} {a : Addr} {kvs : List (Key × V)} {k : Key} (e : H a = some (.dK kvs)) : DGet H a (kV k) (valV kvs k) := .inl ⟨kvs, k, .inl e, rfl, rfl⟩
theorem DGet.t {H : Hp} {a b : Addr} {kvs : List (List Key × V)} {k : List Key} (e : H a = some (.dT kvs)) (eb : H b = some (.tup (k.map kV))) : DGet H a (.ref b) (valV kvs k) := .inr ⟨kvs, k, b, .inl e, rfl, eb, rfl⟩
theorem DPut.k {H : Hp} {a : Addr} {kvs : List (Key × V)} {k : Key} {v : V} (e : H a = some (.dK kvs)) (hl : kvs.length < sizeLine) : DPut H a (kV k) v (upd H a (.dK (putK kvs k v))) := .inl ⟨kvs, k, e, rfl, hl, rfl⟩
theorem DPut.t {H : Hp} {a b : Addr} {kvs : List (List Key × V)} {k : List Key} {v : V} (e : H a = some (.dT kvs)) (eb : H b = some (.tup (k.map kV))) (hl : kvs.length < sizeLine) :
    DPut H a (.ref b) v (upd H a (.dT (putK kvs k v))) := .inr ⟨kvs, k, b, e, rfl, eb, hl, rfl⟩
section
variable {X : Cx} {pins : List (Addr × Obj)} {σ : St} {H : Hp} {s : Shared} {a : Addr} {y v : V} {u r : Value} {o : Option V} {A : Around} {E : Value → Shared → Prop}
theorem Inv.big (I : Inv X pins σ H s) : sysModules < s.heap.objs.size := by
  have h : mainGlobals < s.heap.objs.size := (I.mod.glob.keeps I.bk).lt
  exact Nat.lt_trans (by decide) h
theorem d_getItem {Q : Value → Shared → Prop} (hu : A.units + 1 < cLine) (I : Inv X pins σ H s) (g : DGet H a y (some v)) (ry : RelV y u) (h : ∀ w' s', Inv X pins σ H s' → RelV v w' → Q w' s') :
    wpAny (model X.prog X.w) A (getItem (.ref a) u) Q E s := by
  rcases g with ⟨kvs, k, e, ey, l⟩ | ⟨kvs, k, b, e, ey, eb, l⟩
  · subst ey
    obtain ⟨z, hd, vs, rel, dd⟩ := dk_rd I.hok e
    obtain ⟨w', hw, rw'⟩ := RelO.some_of (v := v) (o := valueAt vs k) (by rw [l]; exact rel.val k)
    exact wpAny_getItem_of (kV_is ry) dd.mapOf hw (h w' _ (I.tok _) rw')
  · subst ey
    cases (show u = Value.ref b from ry)
    obtain ⟨z, hd, xs, rel, dd⟩ := dt_rd I.hok e
    obtain ⟨w', hw, rw'⟩ := RelO.some_of (v := v) (o := (atKey xs k).map (·.2)) (by rw [l]; exact rel.val k)
    obtain ⟨p, hp, hp2⟩ := Option.map_eq_some_iff.mp hw
    refine wpAny_getItem_heap (tupleKind_room_in1 hu) (key_of I.hok eb) dd hp ?_
    rw [hp2]
    exact h w' _ (I.tok _) rw'
theorem d_write {h' : Heap} {t' : Nat} {ob : HO} (I : Inv X pins σ H s) (mu : Mut (H a)) (hs : Heap.SameBut a s.heap h') (he : ∃ q, h'.get? a = some q) (new : ObjOk X.prog X.w (upd H a ob) h' a ob) :
    Inv X pins σ (upd H a ob) { s with heap := h', toks := t' } :=
  I.write (x := a) (e := a) mu (.inl rfl) (fun b q hb z => (hs.2 b hb).trans z) he new
theorem dk_new {P : Program} {w : World} {H' : Hp} {h' : Heap} {kvs : List (Key × V)} {vs : List (Key × Value)} (z : kvs.length ≤ sizeLine) (hd : (a == sysModules) = false) (rel : KV kvs vs) (dd : h'.DictOf (mixKind P w) a vs) :
    ObjOk P w H' h' a (.dK kvs) := ⟨z, hd, vs, rel, dd⟩
theorem d_setItem {H' : Hp} {Q : Unit → Shared → Prop} (hu : A.units + 1 < cLine) (I : Inv X pins σ H s) (g : DPut H a y v H') (ry : RelV y u) (rv : RelV v r) (h : ∀ s', Inv X pins σ H' s' → Q () s') :
    wpAny (model X.prog X.w) A (setItem (.ref a) u r) Q E s := by
  rcases g with ⟨kvs, k, e, ey, l, eH⟩ | ⟨kvs, k, b, e, ey, eb, l, eH⟩
  · subst ey eH
    obtain ⟨z, hd, vs, rel, dd⟩ := dk_of I.hok e
    have hz : vs.length ≤ sizeLine := by rw [← rel.length]; exact z
    have hl : (putK kvs k v).length ≤ sizeLine := by have := length_putK kvs k v; omega
    refine wpAny_setItem_pairs (hsz := hz) (kV_is ry) dd fun h' dd' hs => h _ ?_
    have he : ∃ q, h'.get? a = some q := let ⟨q, _, _, hq, _⟩ := dd'; ⟨q, hq⟩
    exact d_write I (by rw [e]; exact True.intro) hs he (dk_new hl hd (rel.put k rv) dd')
  · subst ey eH
    cases (show u = Value.ref b from ry)
    obtain ⟨z, hd, xs, rel, dd⟩ := dt_of I.hok e
    have hz : xs.length ≤ sizeLine := by rw [← Paired.length rel]; exact z
    have hl : (putK kvs k v).length ≤ sizeLine := by have := length_putK kvs k v; omega
    refine wpAny_setItem_heap (hsz := hz) (tupleKind_room_in1 hu) (key_of I.hok eb) dd fun h' dd' hs => h _ ?_
    obtain ⟨q, es, ep, hq, h2, h3, h4, _, h5⟩ := dd'
    refine d_write I (by rw [e]; exact True.intro) hs ⟨q, hq⟩ ⟨hl, hd, _, (rel.put k eb rv).keeps fun c ys ec => ?_, q, es, ep, hq, h2, h3, h4, h5⟩
    rw [upd_ne (ne_of ec e (fun z => nomatch z))]
    exact ec
end
section
variable {X : Cx} {pins : List (Addr × Obj)} {σ : St} {H : Hp} {s : Shared} {a : Addr} {kvs : List (Key × V)} {k : Key} {u : Value} {A : Around} {E : Value → Shared → Prop}
end
def NoSl (i : Expr) : Prop := ∀ ov iv, subscripted i false ov iv = operate [ov, iv] (getItem ov iv)
theorem subD_of {prog : Program} {w : World} {A : Around} {E : Value → Shared → Prop} {s : Shared} {env : Env} {value slice : Expr} {pos : Pos} {T id : String} {Q : Value → Shared → Prop}
    (hl : typeLookup (.type T) "__getitem__" = pure (some (.builtin id))) (hs : NoSl slice)
    (h : wpAny (model prog w) A (eval value env) (fun o s₁ => wpAny (model prog w) A (eval slice env) (fun i s₂ => s₂.TypeIs o T ∧ wpAny (model prog w) A (getItem o i) Q E s₂) E s₁) E s) :
    wpAny (model prog w) A (eval (.Subscript value slice pos) env) Q E s := by
  refine Subscript_ (wpAny_mono h (fun o s₁ h₁ => wpAny_mono h₁ (fun i s₂ h₂ => ?_) fun _ _ x => x) fun _ _ x => x)
  obtain ⟨hT, h₂⟩ := h₂
  unfold subscriptTail
  refine wpAny_bind ?_
  rw [getitemInPython_of_ne hT.not_modules]
  refine wpAny_bind (wpAny_specialOf hT hl ?_)
  have fin : wpAny (model prog w) A (subscripted slice false o i) (fun r s₃ => wpAny (model prog w) A (letTemporaryGo value o r >>= fun _ => pure r) Q E s₃) E s₂ := by
    rw [hs o i]
    exact wpAny_operating (wpAny_mono h₂ (fun r s₃ h₃ => wpAny_bind (wpAny_letTemporaryGo (wpAny_pure h₃))) fun _ _ x => x)
  first
    | exact wpAny_pure (wpAny_bind fin)
    | exact wpAny_bind (wpAny_pure (wpAny_bind fin))
    | exact wpAny_bind fin
theorem dict_typeIs {X : Cx} {pins : List (Addr × Obj)} {σ : St} {H : Hp} {s : Shared} {a : Addr} {y : V} {o : Option V} (I : Inv X pins σ H s) (g : DGet H a y o) : s.TypeIs (.ref a) "dict" := by
  rcases g with ⟨kvs, k, e, _, _⟩ | ⟨kvs, k, b, e, _, _, _⟩
  · obtain ⟨_, _, vs, _, dd⟩ := dk_rd I.hok e
    exact dd.typeIs
  · obtain ⟨_, _, xs, _, dd⟩ := dt_rd I.hok e
    exact dd.typeIs
def tDGet (td ty : TE) : TE := fun σ H Q => td σ H fun x H1 => ty σ H1 fun y H2 => ∃ a v, x = .ref a ∧ DGet H2 a y (some v) ∧ Q v H2
def tDIn (ty td : TE) : TE := fun σ H Q => ty σ H fun y H1 => td σ H1 fun x H2 => ∃ a o, x = .ref a ∧ DGet H2 a y o ∧ Q (.bl o.isSome) H2
def tDNotIn (ty td : TE) : TE := fun σ H Q => ty σ H fun y H1 => td σ H1 fun x H2 => ∃ a o, x = .ref a ∧ DGet H2 a y o ∧ Q (.bl (!o.isSome)) H2
def sDPut (td ty tv : TE) : TS := fun D σ H => tv σ H fun v H1 => td σ H1 fun x H2 => ty σ H2 fun y H3 => ∃ a H4, x = .ref a ∧ DPut H3 a y v H4 ∧ D.nx σ H4
def sDAug (td ty tv : TE) (rd : V → V → Hp → VK → Prop) : TS := fun D σ H => td σ H fun x H1 => ty σ H1 fun y H2 => ∃ a v, x = .ref a ∧ DGet H2 a y (some v) ∧
  tv σ H2 fun y2 H3 => rd v y2 H3 fun z H4 => ∃ H5, DPut H4 a y z H5 ∧ D.nx σ H5
def sDDel (td ty : TE) : TS := fun D σ H => td σ H fun x H1 => ty σ H1 fun y H2 => ∃ a kvs k, x = .ref a ∧ H2 a = some (.dK kvs) ∧ y = kV k ∧ (valV kvs k).isSome = true ∧ D.nx σ (upd H2 a (.dK (dropK kvs k)))
section
variable {X : Cx} {o i e value : Expr} {pos pos' tpos : Pos} {td ty tv : TE}
theorem pe_dget (hu : X.A.units + 1 < cLine) (ho : PE X o td) (hi : PE X i ty) (hs : NoSl i) : PE X (.Subscript o i pos) (tDGet td ty) := by
  refine ⟨?_⟩
  intro pins s σ H Q I h
  refine subD_of PySem.F.slot_dict_getitem.lookup hs (thn (ho pins s σ H _ I h) fun u s1 ⟨x, H1, I1, rx, q1⟩ => thn (hi pins s1 σ H1 _ I1 q1) fun iv s2 ⟨y, H2, I2, ry, a, v, ex, g, q2⟩ => ?_)
  subst ex
  obtain rfl : u = Value.ref a := rx
  exact ⟨dict_typeIs I2 g, d_getItem hu I2 g ry fun w' s3 I3 rw' => ⟨v, H2, I3, rw', q2⟩⟩
theorem ps_dput (hu : X.A.units + 1 < cLine) (ho : PE X o td) (hi : PE X i ty) (hv : PE X value tv) (hs : swapsWith value (some (.Subscript o i pos')) pos.line X.env = pure false) :
    PS X (.Assign [.Subscript o i pos'] value pos) (sDPut td ty tv) := by
  refine ⟨?_⟩
  intro pins s σ H D I h
  refine wpAny_Assign_Subscript (thn (hv pins s σ H _ I h) fun r s1 ⟨v, H1, I1, rv, q1⟩ => thn (ho pins s1 σ H1 _ I1 q1) fun u s2 ⟨x, H2, I2, rx, q2⟩ => thn (hi pins s2 σ H2 _ I2 q2) fun iv s3 ⟨y, H3, I3, ry, a, H4, ex, g, q3⟩ => ?_) hs
  subst ex
  obtain rfl : u = Value.ref a := rx
  exact d_setItem hu I3 g ry rv fun s4 I4 => ⟨σ, H4, I4, q3⟩
end
theorem dk_empty {P : Program} {w : World} {H : Hp} (h : Heap) (hb : sysModules < h.objs.size) : ObjOk P w H (h.push { cls := .type "dict", data := .dict #[] }) h.objs.size (.dK []) :=
  ⟨Nat.zero_le _, beq_eq_false_iff_ne.mpr (Ne.symm (Nat.ne_of_lt hb)), [], .nil, Heap.DictOf.new h⟩
def tDNewK : TE := fun _ H Q => ∀ p, H p = none → Q (.ref p) (upd H p (.dK []))
def tDNewT : TE := fun _ H Q => ∀ p, H p = none → Q (.ref p) (upd H p (.dT []))
section
variable {X : Cx} {pos : Pos}
end
def tPairs : List (TE × TE) → St → Hp → (List (V × V) → Hp → Prop) → Prop
  | [], _, H, Q => Q [] H
  | (tk, tv) :: r, σ, H, Q => tk σ H fun x H1 => tv σ H1 fun y H2 => tPairs r σ H2 fun ps H3 => Q ((x, y) :: ps) H3
abbrev VV : List (V × V) → List (Value × Value) → Prop := Paired fun p q => RelV p.1 q.1 ∧ RelV p.2 q.2
def PPs (X : Cx) (pos : Pos) (keys : List (Option Expr)) (values : List Expr) (trs : List (TE × TE)) : Prop :=
  ∀ (pins : List (Addr × Obj)) (s : Shared) (σ : St) (H : Hp) (Q : List (V × V) → Hp → Prop), Inv X pins σ H s → tPairs trs σ H Q →
    wpAny (model X.prog X.w) X.A (evalPairs (pairTrees keys values X.env pos)) (fun vs s' => ∃ ps H', Inv X pins σ H' s' ∧ VV ps vs ∧ Q ps H') X.xe s
theorem pps_nil {X : Cx} {pos : Pos} : PPs X pos [] [] [] := fun pins s σ H Q I h => pairTrees_nil_walk ⟨[], H, I, .nil, h⟩
theorem pps_cons {X : Cx} {pos : Pos} {k v : Expr} {ks : List (Option Expr)} {vs : List Expr} {tk tv : TE} {trs : List (TE × TE)} (hk : PE X k tk) (hv : PE X v tv) (hr : PPs X pos ks vs trs) :
    PPs X pos (some k :: ks) (v :: vs) ((tk, tv) :: trs) := fun pins s σ H Q I h =>
  pairTrees_cons_walk (thn (hk pins s σ H _ I h) fun u s1 ⟨x, H1, I1, rx, q1⟩ => thn (hv pins s1 σ H1 _ I1 q1) fun w2 s2 ⟨y, H2, I2, ry, q2⟩ =>
    thn (hr pins s2 σ H2 _ I2 q2) fun ws s3 ⟨ps, H3, I3, rel, q3⟩ => ⟨(x, y) :: ps, H3, I3, .cons ⟨rx, ry⟩ rel, q3⟩)
def mergeK (kvs more : List (Key × V)) : List (Key × V) := more.foldl (fun acc kv => putK acc kv.1 kv.2) kvs
theorem KV.merge : ∀ {more : List (Key × V)} {rs : List (Key × Value)} {kvs : List (Key × V)} {vs : List (Key × Value)}, KV more rs → KV kvs vs → KV (mergeK kvs more) (merged vs rs) := by
  intro more rs kvs vs r
  unfold KV at r
  induction r generalizing kvs vs with
  | nil => intro q; exact q
  | @cons p q ps qs h t ih =>
    intro r0
    have e : KV (putK kvs p.1 p.2) (stored vs q.1 q.2) := by
      have := r0.put p.1 h.2
      rw [← h.1]; exact this
    exact ih e
theorem length_mergeK : ∀ (more kvs : List (Key × V)), (mergeK kvs more).length ≤ kvs.length + more.length
  | [], kvs => by show kvs.length ≤ kvs.length + 0; omega
  | p :: r, kvs => by
    have h1 := length_mergeK r (putK kvs p.1 p.2)
    have h2 := length_putK kvs p.1 p.2
    show (mergeK (putK kvs p.1 p.2) r).length ≤ _
    rw [List.length_cons]; omega
theorem carries_of {P : Program} {w : World} : ∀ {kvs : List (Key × V)} {ws : List (Value × Value)}, VV (kvs.map fun kv => (kV kv.1, kv.2)) ws → ∃ rs, Carries (mixKind P w) ws rs ∧ KV kvs rs
  | [], _, r => by rw [List.map_nil] at r; cases r; exact ⟨[], True.intro, .nil⟩
  | p :: kvs, _, r => by
    rw [List.map_cons] at r
    cases r with
    | @cons a b as bs h t =>
      obtain ⟨rs, c, q⟩ := carries_of (P := P) (w := w) t
      obtain ⟨b1, b2⟩ := b
      exact ⟨(p.1, b2) :: rs, ⟨kV_is h.1, rfl, c⟩, .cons ⟨rfl, h.2⟩ q⟩
def tDisp (trs : List (TE × TE)) : TE := fun σ H Q => ∀ p, H p = none → tPairs trs σ (upd H p (.dK [])) fun ps H2 => H2 p = some (.dK []) ∧ ∃ kvs : List (Key × V), ps = kvs.map (fun kv => (kV kv.1, kv.2)) ∧ kvs.length ≤ 15 ∧ Q (.ref p) (upd H2 p (.dK (mergeK [] kvs)))
theorem pe_disp {X : Cx} {pos : Pos} {keys : List (Option Expr)} {values : List Expr} {trs : List (TE × TE)} (h : PPs X pos keys values trs) (hall : keys.all (·.isSome) = true) (hl : keys.length = values.length) (h0 : keys ≠ [])
    (h15 : keys.length ≤ 15) : PE X (.Dict keys values pos) (tDisp trs) := by
  refine ⟨?_⟩
  intro pins s σ H Q I q
  have hn := I.hok.fresh (Nat.le_refl s.heap.objs.size)
  have I1 := I.laid (a := s.heap.objs.size) (o := .dK []) (h' := s.heap.push { cls := .type "dict", data := .dict #[] }) (t' := s.toks) (fun _ _ q => Heap.get?_push_of_some _ q) (Nat.le_refl _) (dk_empty s.heap I.big)
  refine wpAny_Dict_walk (knd := mixKind X.prog X.w) hall hl h0 h15 (thn (h pins _ σ _ _ I1 (q _ hn)) fun ws s2 ⟨ps, H2, I2, rel, e, kvs, ep, lk, q2⟩ => ?_)
  subst ep
  obtain ⟨rs, c, rk⟩ := carries_of (P := X.prog) (w := X.w) rel
  obtain ⟨z, hd, vs0, r0, dd⟩ := dk_of I2.hok e
  cases r0
  refine ⟨rs, c, dd, fun h' dd' hs => ⟨.ref s.heap.objs.size, _, ?_, rfl, q2⟩⟩
  have hz : (mergeK [] kvs).length ≤ sizeLine := by
    have h1 := length_mergeK kvs []
    rw [List.length_nil] at h1
    rw [sizeLine_eq]; omega
  have he : ∃ q, h'.get? s.heap.objs.size = some q := let ⟨q, _, _, hq, _⟩ := dd'; ⟨q, hq⟩
  exact d_write I2 (by rw [e]; exact True.intro) hs he (dk_new hz hd (rk.merge .nil) dd')
structure M1 (X : Cx) (o : Expr) (m : Str) (apos : Pos) (e : Expr) (cpos : Pos) : Prop where
  base : attributeBase o m X.env (eval o X.env) = eval o X.env
  few : ((backTo cpos (starEach [e] X.env)).all (fun x => !x.1) && (backToKw cpos (keywordEach [] X.env)).all (fun x => x.1.isSome)
    && decide (([e] : List Expr).length + ([] : List Keyword).length + (if ([] : List Keyword).isEmpty then 0 else 1) < 30)) = true
  line : (apos.endLine == cpos.line) = true
  trees : backTo cpos (starEach [e] X.env) = [(false, eval e X.env)]
structure M2 (X : Cx) (o : Expr) (m : Str) (apos : Pos) (e f : Expr) (cpos : Pos) : Prop where
  base : attributeBase o m X.env (eval o X.env) = eval o X.env
  few : ((backTo cpos (starEach [e, f] X.env)).all (fun x => !x.1) && (backToKw cpos (keywordEach [] X.env)).all (fun x => x.1.isSome)
    && decide (([e, f] : List Expr).length + ([] : List Keyword).length + (if ([] : List Keyword).isEmpty then 0 else 1) < 30)) = true
  line : (apos.endLine == cpos.line) = true
  trees : backTo cpos (starEach [e, f] X.env) = [(false, eval e X.env), (false, eval f X.env)]
def IsD (H : Hp) (a : Addr) : Prop := (∃ kvs, Rd H a (.dK kvs)) ∨ ∃ kvs, Rd H a (.dT kvs)
section
variable {X : Cx} {pins : List (Addr × Obj)} {σ : St} {H : Hp} {s : Shared} {a : Addr} {y d : V} {u r : Value} {o : Option V} {A : Around} {E : Value → Shared → Prop}
end
def tDGet1 (td ty : TE) : TE := fun σ H Q => td σ H fun x H1 => ∃ a, x = .ref a ∧ IsD H1 a ∧ ty σ H1 fun y H2 => ∃ o, DGet H2 a y o ∧ Q (o.getD .non) H2
def tDGet2 (td ty tx : TE) : TE := fun σ H Q => td σ H fun x H1 => ∃ a, x = .ref a ∧ IsD H1 a ∧ ty σ H1 fun y H2 => tx σ H2 fun z H3 => ∃ o, DGet H3 a y o ∧ Q (o.getD z) H3
def tDPop1 (td ty : TE) : TE := fun σ H Q => td σ H fun x H1 => ∃ a, x = .ref a ∧ IsD H1 a ∧ ty σ H1 fun y H2 => ∃ kvs k v, H2 a = some (.dK kvs) ∧ y = kV k ∧ valV kvs k = some v ∧ Q v (upd H2 a (.dK (dropK kvs k)))
def tDPop2 (td ty tx : TE) : TE := fun σ H Q => td σ H fun x H1 => ∃ a, x = .ref a ∧ IsD H1 a ∧ ty σ H1 fun y H2 => tx σ H2 fun z H3 => ∃ kvs k, H3 a = some (.dK kvs) ∧ y = kV k ∧
  (∀ v, valV kvs k = some v → Q v (upd H3 a (.dK (dropK kvs k)))) ∧ (valV kvs k = none → Q z H3)
section
variable {X : Cx} {o e f : Expr} {apos cpos : Pos} {td ty tx : TE}
end
section
variable {X : Cx} {pins : List (Addr × Obj)} {σ : St} {H : Hp} {s : Shared} {a : Addr} {kvs : List (Key × V)} {A : Around} {E : Value → Shared → Prop}
end
section
variable {X : Cx} {pins : List (Addr × Obj)} {σ : St} {H : Hp} {s : Shared} {a : Addr} {y : V} {u : Value} {A : Around} {E : Value → Shared → Prop}
end
end L2
namespace L2
open PySem PySem.Spec PyProof.Rows
section
variable {prog : Program} {w : World} {A : Around} {E : Value → Shared → Prop}
end
section
variable {X : Cx}
end
end L2
namespace L2
open PySem PySem.Spec PyProof.Rows
section
variable {X : Cx} {pins : List (Addr × Obj)} {σ : St} {H : Hp} {s : Shared} {h' : Heap}
theorem Inv.turnedL {t' : Nat} {ch : List Addr} (I : Inv X pins σ H s) (k : ∀ b o, b ∉ ch → s.heap.get? b = some o → h'.get? b = some o) (hf : ∀ b ∈ ch, FpOk X pins H b) : Inv X pins σ H { s with heap := h', toks := t' } := by
  have nit : ∀ b u, H b = some u → b ∉ ch := fun b u e z => by
    have q := (hf b z).1
    rw [q] at e; cases e
  refine I.step (g' := s.gens) (d' := s.drawn) (ch := ch) (fun b hb => ⟨(hf b hb).2.2.2.1, (hf b hb).2.1, (hf b hb).2.2.2.2.1, (hf b hb).2.2.2.2.2⟩) (fun b o _ _ hc e _ => k b o hc e) (fun b o _ _ hc e _ => ⟨o.slots, k b o hc e⟩)
    (fun _ _ _ _ n => n) (fun b o hc e => ⟨o, k b o hc e⟩) (fun _ _ e => e) (fun _ _ _ e => e) (fun b ps e => ⟨#[], by rw [e]; simp⟩) (fun m hm => ?_) (fun b u e => ?_) I.bare
  · obtain ⟨o, es, ep, ho, r⟩ := hm
    exact ⟨o, es, ep, k _ o (fun z => (hf _ z).2.1 rfl) ho, r⟩
  · refine (I.hok b u e).stay (fun c v hc q => k c v ?_ q) (fun _ q => q) fun _ _ q => q
    rcases hc with z | z
    · rw [z]; exact nit b u e
    · exact nit c _ z
theorem Inv.turnedNew {t' : Nat} {ch : List Addr} {T : Addr} {ob : HO} (I : Inv X pins σ H s) (k : ∀ b o, b ∉ ch → s.heap.get? b = some o → h'.get? b = some o) (hf : ∀ b ∈ ch, FpOk X pins H b) (hT : s.heap.objs.size ≤ T)
    (new : ObjOk X.prog X.w (upd H T ob) h' T ob) : Inv X pins σ (upd H T ob) { s with heap := h', toks := t' } := by
  have hn : H T = none := I.hok.fresh hT
  have nit : ∀ b u, H b = some u → b ∉ ch := fun b u e z => by
    have q := (hf b z).1
    rw [q] at e; cases e
  refine I.step (g' := s.gens) (d' := s.drawn) (ch := ch) (fun b hb => ⟨(hf b hb).2.2.2.1, (hf b hb).2.1, (hf b hb).2.2.2.2.1, (hf b hb).2.2.2.2.2⟩) (fun b o _ _ hc e _ => k b o hc e) (fun b o _ _ hc e _ => ⟨o.slots, k b o hc e⟩)
    (fun b o _ e n => ?_) (fun b o hc e => ⟨o, k b o hc e⟩) (fun b xs e => ?_) (fun b o u e => ?_) (fun b ps e => ⟨#[], ?_⟩) (fun m hm => ?_) (fun b u e => ?_) I.bare
  · rw [upd_ne (Nat.ne_of_lt (Nat.lt_of_lt_of_le (Heap.lt_size e) hT))]; exact n
  · rw [upd_ne (ne_of_none e hn)]; exact e
  · rw [upd_ne (ne_of_none e hn)]; exact e
  · rw [upd_ne (ne_of_none e hn), e]; simp
  · obtain ⟨o, es, ep, ho, r⟩ := hm
    exact ⟨o, es, ep, k _ o (fun z => (hf _ z).2.1 rfl) ho, r⟩
  · by_cases hb : b = T
    · subst hb
      rw [upd_same] at e
      cases e
      exact new
    · rw [upd_ne hb] at e
      refine (I.hok b u e).stay (fun c v hc q => k c v ?_ q) (fun c q => by rw [upd_ne (ne_of_none q hn)]; exact q) fun c xs q => by rw [upd_ne (ne_of_none q hn)]; exact q
      rcases hc with z | z
      · rw [z]; exact nit b u e
      · exact nit c _ z
end
def tLock (t : TS) : TS := fun D σ H => ∃ d u, H d = some u ∧ Mut (some u) ∧ ∀ od, t ⟨fun σ' H' => H' d = some (.frz od u) ∧ D.nx σ' (upd H' d u), fun v H' => H' d = some (.frz od u) ∧ D.rt v (upd H' d u), fun σ' H' => H' d = some (.frz od u) ∧ D.bk σ' (upd H' d u), fun σ' H' => H' d = some (.frz od u) ∧ D.ct σ' (upd H' d u)⟩ σ (upd H d (.frz od u))
def tLockE (t : TE) : TE := fun σ H Q => ∃ d u, H d = some u ∧ Mut (some u) ∧ ∀ od, t σ (upd H d (.frz od u)) fun v H' => H' d = some (.frz od u) ∧ Q v (upd H' d u)
section
variable {X : Cx}
end
def Itc (lo c : Int) (n : Nat) : It := ⟨fun i _ => i < n, fun i H x H' => H' = H ∧ x = .int (lo + (i : Nat) * c), fun i _ => n ≤ i⟩
def RgC (i j c : Int) (n : Nat) : Prop := c ≠ 0 ∧ c.natAbs < 1073741824 ∧ Builtin.Range.small i j c = true ∧ Builtin.Range.rangeSize i j c = n
theorem RgC.neg {i j : Int} (ha : -(2 ^ 62) ≤ i) (ha' : i < 2 ^ 62) (hb : -(2 ^ 62) ≤ j) (hb' : j < 2 ^ 62) : RgC i j (-1) (i - j).toNat :=
  ⟨by decide, by decide, PySem.W.small_down ha ha' hb hb', PySem.W.rangeSize_downNat i j⟩
def iRng3 (ta : TA) : TI := fun σ H R => ta σ H fun vs H1 => ∃ (i j c : Int) (n : Nat), vs = [.int i, .int j, .int c] ∧ RgC i j c n ∧ R (Itc i c n) H1
section
variable {X : Cx} {tg : Expr}
end
def Itv (K : PySem.W.Frag) (a : Addr) (n : Nat) : It :=
  ⟨fun i H => i < n ∧ ∃ (xs : List V) (x : V), SqL K H a xs ∧ xs[n - 1 - i]? = some x, fun i H x H' => H' = H ∧ ∀ xs, SqL K H a xs → xs[n - 1 - i]? = some x, fun i _ => n ≤ i⟩
def iRev (K : PySem.W.Frag) (ta : TA) : TI := fun σ H R => ta σ H fun vs H1 => ∃ (a : Addr) (xs : List V), vs = [.ref a] ∧ SqL K H1 a xs ∧ R (Itv K a xs.length) H1
section
variable {X : Cx} {tg : Expr}
end
def Its (x : Str) : It := ⟨fun i _ => i < x.cps.size, fun i H v H' => H' = H ∧ ∃ c, x.cps[i]? = some c ∧ v = .str ⟨#[c]⟩, fun i _ => x.cps.size ≤ i⟩
def iStr (te : TE) : TI := fun σ H R => te σ H fun v H1 => ∃ x, v = .str x ∧ R (Its x) H1
section
variable {prog : Program} {w : World} {A : Around} {E : Value → Shared → Prop} {s : Shared}
end
section
variable {X : Cx} {pins : List (Addr × Obj)} {σ : St} {H : Hp} {s : Shared} {d : Addr} {o : Obj}
end
def Itk (d : Addr) (o : Obj) (kvs : List (Key × V)) : It :=
  ⟨fun i H => H d = some (.frz o (.dK kvs)) ∧ i < kvs.length, fun i H x H' => H' = H ∧ ∃ k v, kvs[i]? = some (k, v) ∧ x = kV k, fun i H => H d = some (.frz o (.dK kvs)) ∧ kvs.length ≤ i⟩
def Itkt (d : Addr) (o : Obj) (kvs : List (List Key × V)) : It :=
  ⟨fun i H => H d = some (.frz o (.dT kvs)) ∧ i < kvs.length, fun i H x H' => H' = H ∧ ∃ (k : List Key) (v : V) (q : Addr), kvs[i]? = some (k, v) ∧ x = .ref q ∧ H q = some (.tup (k.map kV)), fun i H => H d = some (.frz o (.dT kvs)) ∧ kvs.length ≤ i⟩
def Itd (d : Addr) (o : Obj) (kvs : List (Key × V)) : It :=
  ⟨fun i H => H d = some (.frz o (.dK kvs)) ∧ i < kvs.length, fun i H x H' => H' = H ∧ ∃ k, kvs[i]? = some (k, x), fun i H => H d = some (.frz o (.dK kvs)) ∧ kvs.length ≤ i⟩
def Iti (d : Addr) (o : Obj) (kvs : List (Key × V)) : It :=
  ⟨fun i H => H d = some (.frz o (.dK kvs)) ∧ i < kvs.length, fun i H x H' => ∃ T k v, kvs[i]? = some (k, v) ∧ x = .ref T ∧ H T = none ∧ H' = upd H T (.tup [kV k, v]), fun i H => H d = some (.frz o (.dK kvs)) ∧ kvs.length ≤ i⟩
section
variable {P : Program} {w : World} {K : PySem.W.Frag} {tg : Expr} {d : Addr} {o : Obj} {es : Array DictEntry} {ep : Nat}
end
def iKeys (td : TE) : TI := fun σ H R => td σ H fun x H1 => ∃ d o, x = .ref d ∧ ((∃ kvs, H1 d = some (.frz o (.dK kvs)) ∧ R (Itk d o kvs) H1) ∨ ∃ kvs, H1 d = some (.frz o (.dT kvs)) ∧ R (Itkt d o kvs) H1)
def iVals (td : TE) : TI := fun σ H R => td σ H fun x H1 => ∃ d o kvs, x = .ref d ∧ H1 d = some (.frz o (.dK kvs)) ∧ R (Itd d o kvs) H1
def iItems (td : TE) : TI := fun σ H R => td σ H fun x H1 => ∃ d o kvs, x = .ref d ∧ H1 d = some (.frz o (.dK kvs)) ∧ R (Iti d o kvs) H1
def iKeysM (td : TE) : TI := fun σ H R => td σ H fun x H1 => ∃ d o kvs, x = .ref d ∧ H1 d = some (.frz o (.dK kvs)) ∧ R (Itk d o kvs) H1
section
variable {X : Cx} {tg e : Expr} {td : TE} {apos cpos : Pos}
end
def Ite (K : PySem.W.Frag) (a : Addr) : It :=
  ⟨fun i H => ∃ (xs : List V) (x : V), SqL K H a xs ∧ xs[i]? = some x, fun i H v H' => ∃ T x, v = .ref T ∧ H T = none ∧ H' = upd H T (.tup [.int (i : Nat), x]) ∧ ∀ xs, SqL K H a xs → xs[i]? = some x, fun i H => ∃ xs : List V, SqL K H a xs ∧ xs.length ≤ i⟩
def iEnum (K : PySem.W.Frag) (ta : TA) : TI := fun σ H R => ta σ H fun vs H1 => ∃ a xs, vs = [.ref a] ∧ SqL K H1 a xs ∧ R (Ite K a) H1
theorem boot_zip5 : bootBuiltins "zip" = some (.type "zip") := by decide +kernel
def Itz (K : PySem.W.Frag) (a b : Addr) : It :=
  ⟨fun i H => ∃ (xs ys : List V) (x y : V), SqL K H a xs ∧ SqL K H b ys ∧ xs[i]? = some x ∧ ys[i]? = some y,
    fun i H v H' => ∃ T x y, v = .ref T ∧ H T = none ∧ H' = upd H T (.tup [x, y]) ∧ (∀ xs, SqL K H a xs → xs[i]? = some x) ∧ ∀ ys, SqL K H b ys → ys[i]? = some y,
    fun i H => ∃ xs ys : List V, SqL K H a xs ∧ SqL K H b ys ∧ (xs.length ≤ i ∨ ys.length ≤ i)⟩
theorem turn_zip {P : Program} {w : World} {K : PySem.W.Frag} {elts : List Expr} {kk : Nat} {tpos : Pos} {a b z TI TO i1 i2 : Addr} (D : ZipApart z TI TO i1 i2 a b) :
    Turn P w K (.Tuple elts kk tpos) (Itz K a b) [z, TI, TO, i1, i2] z (fun i h => IsZip h z TI TO .none ∧ IsPair h TI (.ref i1) (.ref i2) ∧ (∃ x y, IsPair h TO x y) ∧ h.IsListIter i1 a i ∧ h.IsListIter i2 b i) where
  mem := by simp
  obj := fun i h st c hc => by
    obtain ⟨hz, hTI, ⟨x, y, hTO⟩, ⟨o1, e1, _, d1⟩, ⟨o2, e2, _, d2⟩⟩ := st
    have e' : c = z ∨ c = TI ∨ c = TO ∨ c = i1 ∨ c = i2 := by simpa using hc
    rcases e' with q | q | q | q | q
    · rw [q]; exact ⟨_, hz, fun v q => nomatch q⟩
    · rw [q]; exact ⟨_, hTI, fun v q => nomatch q⟩
    · rw [q]; exact ⟨_, hTO, fun v q => nomatch q⟩
    · rw [q]; exact ⟨o1, e1, fun v q => by rw [d1] at q; cases q⟩
    · rw [q]; exact ⟨o2, e2, fun v q => by rw [d2] at q; cases q⟩
  keep := fun i h h' st k => by
    obtain ⟨hz, hTI, ⟨x, y, hTO⟩, h1, h2⟩ := st
    exact ⟨k z (by simp) _ hz, k TI (by simp) _ hTI, ⟨x, y, k TO (by simp) _ hTO⟩, h1.at fun o q => k i1 (by simp) o q, h2.at fun o q => k i2 (by simp) o q⟩
  item := by
    intro X hP hw hK hc i pins s σ H E I hf st hg
    subst hP hw hK
    obtain ⟨hz, hTI, ⟨x0, y0, hTO⟩, h1, h2⟩ := st
    obtain ⟨xs, ys, x, y, hqx, hqy, hx, hy⟩ := hg
    obtain ⟨its, rv, p, _⟩ := I.list hqx
    obtain ⟨its2, rv2, p2, _⟩ := I.list hqy
    obtain ⟨u, hu, ru⟩ := rv.get hx
    obtain ⟨u2, hu2, ru2⟩ := rv2.get hy
    have hzl : z < s.heap.objs.size := Heap.lt_size hz
    refine wpAny_pyNext_zip_item D hz hTI hTO h1 h2 p.isList p2.isList (x := u) (y := u2) (by simpa using hu) (by simpa using hu2) fun h' z' TO' h1' h2' hT hsz hk => ?_
    refine ⟨_, rfl, wpAny_letOwnedTupleGo_zip (s := { s with heap := h' }) z' fun h'' z'' sb => ?_⟩
    have hT2 : h''.get? s.heap.objs.size = some { cls := .type "tuple", data := .seq #[u, u2] } := (sb.2 _ (Nat.ne_of_gt hzl)).trans hT
    have new : ObjOk X.prog X.w (upd H s.heap.objs.size (.tup [x, y])) h'' s.heap.objs.size (.tup [x, y]) :=
      ⟨by show 2 ≤ sizeLine; decide, [u, u2], .cons ru (.cons ru2 .nil), ⟨_, hT2, rfl, _, rfl⟩⟩
    have I1 : Inv X pins σ (upd H s.heap.objs.size (.tup [x, y])) { s with heap := h'' } :=
      I.turnedNew (t' := s.toks) (ch := [z, TI, TO, i1, i2]) (fun c o hb q => (sb.2 c (fun q' => hb (by simp [q']))).trans (hk c o (fun q' => hb (by simp [q'])) (fun q' => hb (by simp [q'])) (fun q' => hb (by simp [q'])) (fun q' => hb (by simp [q'])) q)) hf (Nat.le_refl _) new
    refine ⟨.ref s.heap.objs.size, _, I1, rfl, ⟨_, x, y, rfl, I.hok.fresh (Nat.le_refl _), rfl, fun l hl => by rw [I.list_inj hl hqx]; exact hx, fun l hl => by rw [I.list_inj hl hqy]; exact hy⟩, ⟨z'', ?_, ⟨u, u2, ?_⟩, ?_, ?_⟩, fun c hcm => ?_⟩
    · exact (sb.2 _ D.TIz).trans (hk _ _ D.TIz D.TITO D.TIi1 D.TIi2 hTI)
    · exact (sb.2 _ D.TOz).trans TO'
    · exact h1'.at fun o q => (sb.2 _ D.i1z).trans q
    · exact h2'.at fun o q => (sb.2 _ D.i2z).trans q
    · have hlt : c < s.heap.objs.size := by
        have e' : c = z ∨ c = TI ∨ c = TO ∨ c = i1 ∨ c = i2 := by simpa using hcm
        rcases e' with q | q | q | q | q
        · rw [q]; exact hzl
        · rw [q]; exact Heap.lt_size hTI
        · rw [q]; exact Heap.lt_size hTO
        · rw [q]; obtain ⟨_, e1, _⟩ := h1; exact Heap.lt_size e1
        · rw [q]; obtain ⟨_, e2, _⟩ := h2; exact Heap.lt_size e2
      rw [upd_ne (Nat.ne_of_lt hlt)]
      exact (hf c hcm).1
  done := by
    intro X hP hw hK hc i pins s σ H E I hf st hg
    subst hP hw hK
    obtain ⟨hz, hTI, ⟨x0, y0, hTO⟩, h1, h2⟩ := st
    obtain ⟨xs, ys, hqx, hqy, hend⟩ := hg
    obtain ⟨its, rv, p, _⟩ := I.list hqx
    obtain ⟨its2, rv2, p2, _⟩ := I.list hqy
    have l1 := rv.length
    have l2 := rv2.length
    have he : its.toArray[i]? = none ∨ its2.toArray[i]? = none := by
      rcases hend with q | q
      · exact .inl (by simp; omega)
      · exact .inr (by simp; omega)
    exact wpAny_pyNext_zip_end (I.ok.hd hc) D hz hTI hTO h1 h2 p.isList p2.isList he fun h' hk => ⟨rfl, I.turnedL (t' := s.toks) (ch := [z, TI, TO, i1, i2]) (fun c o hb q =>
      hk c o (fun q' => hb (by simp [q'])) (fun q' => hb (by simp [q'])) (fun q' => hb (by simp [q'])) (fun q' => hb (by simp [q'])) q) hf⟩
  self := fun A i s Q E st h => wpAny_pyIter_zip st.1 h
def iZip (K : PySem.W.Frag) (ta : TA) : TI := fun σ H R => ta σ H fun vs H1 => ∃ a b xs ys, vs = [.ref a, .ref b] ∧ SqL K H1 a xs ∧ SqL K H1 b ys ∧ R (Itz K a b) H1
end L2
section 
namespace Bits
open PySem PyProof.Rows
end Bits
end 
section 
namespace TL
open PySem PySem.Builtin PySem.Builtin.Str PySem.StrLaws
abbrev tl (x : Str) : List Nat := x.cps.toList
def pre (S l : List Nat) : Bool := l.take S.length == S
def spl (S : List Nat) : Nat → List Nat → List Nat → List (List Nat)
  | _, acc, [] => [acc]
  | 0, acc, c :: r => if pre S (c :: r) = true then acc :: spl S (S.length - 1) [] r else spl S 0 (acc ++ [c]) r
  | k + 1, acc, _ :: r => spl S k acc r
def par (S : List Nat) : List Nat → List Nat → Option (List Nat × List Nat)
  | _, [] => none
  | acc, c :: r => if pre S (c :: r) = true then some (acc, (c :: r).drop S.length) else par S (acc ++ [c]) r
def joinL (S : List Nat) : List (List Nat) → List Nat
  | [] => []
  | [p] => p
  | p :: q :: r => p ++ (S ++ joinL S (q :: r))
def numL (n : Nat) : List Nat := (Nat.toDigits 10 n).map Char.toNat
def wstep (st : List (List Nat) × List Nat) (c : Nat) : List (List Nat) × List Nat :=
  if Unicode.isSpace c = true then (if st.2 = [] then st else (st.1 ++ [st.2], [])) else (st.1, st.2 ++ [c])
def wfin (st : List (List Nat) × List Nat) : List (List Nat) := if st.2 = [] then st.1 else st.1 ++ [st.2]
end TL
end 
namespace L2
open PySem PySem.Spec PyProof.Rows
def rNewStrs (ys : List Str) : Hp → VK → Prop := fun H Q => ∀ p, H p = none → Q (.ref p) (upd H p (.lst (ys.map V.str)))
section
variable {X : Cx} {pins : List (Addr × Obj)} {σ : St} {H : Hp} {s : Shared} {Q : VK}
end
section
variable {X : Cx}
end
section
variable {X : Cx} {o e : Expr} {to te : TE}
def tM0 (r : V → List V → Hp → VK → Prop) (to : TE) : TE := fun σ H Q => to σ H fun x H1 => (∃ a, x = .str a) ∧ r x [] H1 Q
def tM1 (r : V → List V → Hp → VK → Prop) (to te : TE) : TE := fun σ H Q => to σ H fun x H1 => (∃ a, x = .str a) ∧ te σ H1 fun y H2 => r x [y] H2 Q
end
end L2
namespace L2
open PySem PySem.Spec PyProof.Rows
section
variable {X : Cx}
end
def clipS (n d : Nat) : Option Int → Int
  | none => (d : Int)
  | some i => max 0 (min (if i < 0 then i + (n : Int) else i) (n : Int))
def cutS (z : Str) (lo hi : Option Int) : Str :=
  ⟨((z.cps.toList.drop (HT.sIx z.length 0 lo)).take (HT.sIx z.length z.length hi - HT.sIx z.length 0 lo)).toArray⟩
def rSlS : V → Option Int → Option Int → Hp → VK → Prop := fun x lo hi H Q => ∃ z, x = .str z ∧ z.length ≤ sizeLine ∧ Q (.str (cutS z lo hi)) H
end L2
namespace Att
open PySem PySem.W PySem.Calls PyProof.Rows
theorem ints_of_wellAll {P : Params} {h : Heap} : ∀ (ns : List Int) (vs : List Value), WellAll P h vs (ns.map WData.int) → IntsAre vs ns := by
  intro ns
  induction ns with
  | nil =>
    intro vs w
    rw [List.map_nil] at w
    cases w
    exact .nil
  | cons n ns ih =>
    intro vs w
    rw [List.map_cons] at w
    cases w with
    | cons a b =>
      cases a
      exact .cons _ _ (ih _ b)
theorem script_of {l : OpenLaw} {n : Nat} (hn : l.most = some n) {P : Params} {h : Heap} {args : List WData} {vals : List Value}
    (hpre : l.row.toRowW.claim.pre args = true) (hwl : WellAll P h vals args) :
    ∃ a vs ns, vals = [Value.ref a] ∧ args = [WData.list (ns.map WData.int)] ∧ h.get? a = some { cls := .type "list", data := .seq vs.toArray } ∧ IntsAre vs ns ∧ ns.length ≤ n := by
  have hsh : WShape.hasAll [] args [.list .int] = true := (pre_splitW hpre).1
  have hc : l.pre.holds [] { args := args } = true := (pre_splitW hpre).2
  obtain ⟨d, r, rfl, h1, h2⟩ := hasAllW_cons hsh
  obtain rfl := hasAllW_nil h2
  obtain ⟨xs, rfl, h3⟩ := hasW_list h1
  obtain ⟨ns, rfl⟩ := items_int h3
  have hlen : ns.length ≤ n := by
    unfold OpenLaw.pre at hc
    have h4 : (WTm.not (.lt (.lit (.int (n : Int))) (.len (.arg 0)))).holds [] { args := [.list (ns.map .int)] } = true := by
      have h4 := (holds_andW hc).1
      rw [hn] at h4
      exact h4
    have h5 := condW_of h4 (w_not (w_lt w_lit (w_len_list (w_arg rfl))))
    rw [List.length_map] at h5
    refine Nat.le_of_not_lt fun q => ?_
    have q' : (n : Int) < ((ns.length : Nat) : Int) := by omega
    first
      | (rw [decide_eq_true q'] at h5; exact absurd h5 (by decide))
      | (simp at h5; omega)
  cases hwl with
  | cons w1 w2 =>
    cases w2
    cases w1 with
    | list ho hall => exact ⟨_, _, ns, rfl, rfl, ho, ints_of_wellAll ns _ hall, hlen⟩
theorem post_true (l : OpenLaw) (args : List WData) : l.row.toRowW.claim.post args (.bool true) args = true :=
  postW_of (r := l.row.toRowW) (X := (true == true))
    (show WShape.has [] (.bool true) .bool = true by first | rfl | decide | simp [WShape.has, WShape.arms, WShape.armsAll])
    (show (WTm.eq .res (.lit (.bool true))).value [] { args := args, res := some (.bool true), after := args } = some (.bool (true == true)) from w_eq_bool (w_res rfl) w_lit) rfl
theorem attach_call {l : OpenLaw} {n : Nat} {q : Program} {loose : List Str} {XP : (Str → Option Value) → Heap → Prop} {YP : World → Heap → Prop} {d : DefRec}
    (hn : l.most = some n) (hdf : d.params.defaults = [])
    (call : ∀ (w : World) (s₀ s₁ : Shared) (mg mb : Str → Option Value) (fa : Addr) (o : Obj) (pm cd doc : Value) (a : Addr) (vs : List Value) (ns : List Int),
      Ground q loose [] XP w s₀ mg mb s₁.heap → YP w s₁.heap →
      s₁.heap.get? fa = some o → o.data = .func (docDef d.name d.params d.body d.scope pm cd doc) → s₁.heap.CodeRec cd d.name → mg d.name = some (.ref fa) →
      s₁.heap.get? a = some { cls := .type "list", data := .seq vs.toArray } → IntsAre vs ns → ns.length ≤ n → s₁.gens = #[] →
      codeAny (model l.prog w) callerA (.call (.ref fa) ⟨[.ref a], []⟩) (fun r s' => r = .ok (.ret (.bool true)) ∧ OldK s₁.heap s'.heap ∧ s'.os = s₁.os ∧ AllBare s'.gens) s₁) :
    WalkO q loose XP YP l.row.toRowW d [] (fun f vs => PySem.call f vs) := by
  intro w s₀ s₁ mg mb G Y fa o pm cd doc dV kV ho hd hcd hD hmg hg args vals as hpre hlay hrd hwl hlo
  obtain rfl : dV = .none := Dflts.none hD hdf
  obtain rfl : kV = .none := Dflts.noKw hD
  obtain ⟨a, vs, ns, rfl, rfl, hobj, hints, hlen⟩ := script_of hn hpre hwl
  refine enter_call (codeAny_mono (call w s₀ s₁ mg mb fa o pm cd doc a vs ns G Y ho (fd_plain hd) hcd hmg hobj hints hlen hg) fun r s' hq => ?_)
  obtain ⟨rfl, h2, h3, h4⟩ := hq
  exact ⟨.inl ⟨.bool true, .bool true, [], rfl, fun _ => rfl, .bool true, post_true l _, fun _ => ⟨List.Pairwise.nil, fun _ hm => (nomatch hm)⟩⟩, h2, h3, h4⟩
section
variable {prog : Program} {w : World} {A : Around} {E : Value → Shared → Prop} {s : Shared} {K : Frag}
def noObjs (h : Heap) : Heap := { h with objs := #[] }
def ledger (h : Heap) (L d : Addr) : List (Addr × Obj) := (List.range h.objs.size).filterMap fun a => if a = L ∨ a = d then none else (h.get? a).map fun o => (a, o)
end
end Att
namespace L2
open PySem PySem.Spec PyProof.Rows
theorem vals_ints : ∀ {vs : List Value} {ns : List Int}, IntsAre vs ns → Vals (ns.map V.int) vs
  | _, _, .nil => .nil
  | _, _, .cons n t h => .cons ⟨t, rfl⟩ (vals_ints h)
def Only (H : Hp) : Prop := ∀ b, H b = none ∨ ∃ o xs, H b = some (.frz o (.lst xs))
theorem law_call {P : Program} {w : World} {K : PySem.W.Frag} {mg mb : Str → Option Value} {CX : CXT} {k : Nat} {fa a : Addr} {fd : FuncData} {x : Str} {sp : Sp} {s₁ : Shared} {vs : List Value} {ns : List Int}
    (KX : K.In s₁.heap) (hns : s₁.heap.Ns mainGlobals mg) (hb : s₁.heap.Ns builtinsNs mb) (hbb : ∀ x : Str, x ≠ "__name__" → mb x = bootBuiltins x) (hlim : s₁.heap.NoLimit) (hg : s₁.gens = #[])
    (ha : s₁.heap.get? a = some { cls := .type "list", data := .seq vs.toArray }) (hi : IntsAre vs ns) (hl : ns.length ≤ sizeLine) (hr : Room k callerA)
    (F : ∀ base : Heap, K.In base → base.Ns mainGlobals mg → FnOk P w K mg base CX k fa fd [x] sp) (hbind : ∀ (s : Shared) (u : Value), BindsTo s fd ⟨[u], []⟩ [(x, u)])
    (hsp : ∀ H : Hp, Only H → SqL K H a (ns.map V.int) → sp [.ref a] H (fun v _ => v = .bl true) fun _ _ _ => False)
    (hCX : ∀ H e s', CX [] H s₁ (fun _ _ _ => False) e s' → False) :
    codeAny (model P w) callerA (.call (.ref fa) ⟨[.ref a], []⟩) (fun r s' => r = .ok (.ret (.bool true)) ∧ OldK s₁.heap s'.heap ∧ s'.os = s₁.os ∧ AllBare s'.gens) s₁ := by
  have rv := vals_ints hi
  have lenV := hi.length
  -- from an abstract heap in which nothing but the script may be tracked
  have core : ∀ H : Hp, Only H → SqL K H a (ns.map V.int) → HOk P w H s₁.heap → (∀ b, H b ≠ none → b = a) → (H a ≠ none → K.lookup a = none) →
      codeAny (model P w) callerA (.call (.ref fa) ⟨[.ref a], []⟩) (fun r s' => r = .ok (.ret (.bool true)) ∧ OldK s₁.heap s'.heap ∧ s'.os = s₁.os ∧ AllBare s'.gens) s₁ := by
    intro H hO hS hok hA hK
    have base_of : ∀ {b : Addr} {o : Obj}, s₁.heap.get? b = some o → H b = none → (hidT s₁.heap H).get? b = some o := fun e n => hidT_get e n
    have noA : ∀ {b : Addr} {o : Obj} {es : Array DictEntry} {ep : Nat}, s₁.heap.get? b = some o → o.data = .dict es ep → H b = none := fun {b o es ep} e d => by
      cases q : H b with
      | none => rfl
      | some u =>
        have e' : b = a := hA b (by rw [q]; simp)
        subst e'
        rw [ha] at e; cases e
        have d' : Data.seq vs.toArray _ = Data.dict es ep := d
        cases d'
    have nsK : ∀ {b : Addr} {m : Str → Option Value}, s₁.heap.Ns b m → (hidT s₁.heap H).Ns b m := fun {b m} ⟨o, es, ep, e, d, r⟩ => ⟨o, es, ep, base_of e (noA e d), d, r⟩
    have hKb : K.In (hidT s₁.heap H) := fun b o e => base_of (KX b o e) (by
      cases q : H b with
      | none => rfl
      | some u =>
        have e' : b = a := hA b (by rw [q]; simp)
        subst e'
        rw [hK (by rw [q]; simp)] at e; cases e)
    have hM : Mod K mg (hidT s₁.heap H) := ⟨hKb, nsK hns, ⟨mb, nsK hb, hbb⟩, let ⟨mc, h1, h2⟩ := hlim; ⟨mc, nsK h1, h2⟩⟩
    have e0 : Env0 P w K mg (hidT s₁.heap H) callerA [] s₁ H := ⟨rfl, hM, fun b o e => of_hidT e, Nat.le_of_eq (hidT_size _ _), trivial, fun b hb => absurd (show b ∈ ([] : List Addr) from hb) (by simp), hok, .of_eq hg⟩
    refine codeAny_mono ((F _ hKb (nsK hns)).run callerA [] s₁ H ⟨[.ref a], []⟩ [.ref a] [.ref a] _ _ hr e0 (hbind s₁ (.ref a)) (.cons rfl .nil) (hsp H hO hS)) fun r s' h => ?_
    cases r with
    | error e => exact (hCX H e s' h).elim
    | ok fl =>
      cases fl with
      | next => exact False.elim h
      | brk => exact False.elim h
      | cont => exact False.elim h
      | ret u =>
        obtain ⟨v, H', os, bare, un, hok', r', q⟩ := h
        have q' : v = .bl true := q
        subst q'
        obtain rfl : u = Value.bool true := r'
        refine ⟨rfl, OldK.of_keep fun b o e => ?_, os, bare⟩
        cases q : H b with
        | none => exact un.keep b o e q (by intro z; exact absurd (show b ∈ ([] : List Addr) from z) (by simp)) (by simp)
        | some u =>
          rcases hO b with z | ⟨ob, xs, z⟩
          · rw [q] at z; cases z
          · have z2 := un.frzs b ob _ z
            obtain ⟨e1, _⟩ := hok b _ z
            obtain ⟨e2, _⟩ := hok' b _ z2
            rw [e] at e1; cases e1
            exact e2
  cases hk : K.lookup a with
  | some o =>
    -- the script is one of the module's own objects
    have e := KX a o hk
    rw [ha] at e
    cases e
    refine core (fun _ => none) (fun _ => .inl rfl) (.inr ⟨_, vs.toArray, _, hk, rfl, rfl, rfl, by rw [List.size_toArray, lenV]; exact hl, by simpa using rv⟩) (fun b u z => by have z' : (none : Option HO) = some u := z; cases z') (fun b z => absurd rfl z) fun z => absurd rfl z
  | none =>
    refine core (fun b => if b = a then some (.frz { cls := .type "list", data := .seq vs.toArray } (.lst (ns.map V.int))) else none) (fun b => ?_) (.inl (.inr ⟨{ cls := .type "list", data := .seq vs.toArray }, if_pos rfl⟩)) (fun b u z => ?_) (fun b z => ?_) fun _ => hk
    · by_cases hb : b = a
      · exact .inr ⟨_, _, if_pos hb⟩
      · exact .inl (if_neg hb)
    · by_cases hb : b = a
      · have z' := (if_pos hb).symm.trans z
        cases z'
        subst hb
        exact ⟨ha, by rw [List.length_map]; exact hl, vs, _, rv, ha⟩
      · have z' := (if_neg hb).symm.trans z
        cases z'
    · by_cases hb : b = a
      · exact hb
      · exact absurd (if_neg hb) z
end L2
namespace L2
open PySem PySem.Spec PyProof.Rows
abbrev KOf {K : PySem.W.Frag} {h : Heap} (_ : K.In h) : PySem.W.Frag := K
theorem walk_of {l : PySem.W.OpenLaw} {n k : Nat} {q : Program} {loose : List Str} {XP : (Str → Option Value) → Heap → Prop} {YP : World → Heap → Prop} {d : DefRec} {K : Params → PySem.W.Frag} {CX : World → CXT} {sp : World → Sp} {x : Str}
    (hn : l.most = some n) (hn2 : n ≤ sizeLine) (hdf : d.params.defaults = []) (hr : Room k callerA)
    (hY : ∀ (w : World) (h : Heap), YP w h → (K w.params).In h)
    (F : ∀ (w : World) (mg : Str → Option Value) (fa : Addr) (h : Heap), (K w.params).In h → h.Ns mainGlobals mg → mg d.name = some (.ref fa) →
      ∃ fd : FuncData, (∀ (s : Shared) (u : Value), BindsTo s fd ⟨[u], []⟩ [(x, u)]) ∧
        ∀ base : Heap, (K w.params).In base → base.Ns mainGlobals mg → FnOk l.prog w (K w.params) mg base (CX w) k fa fd [x] (sp w))
    (hsp : ∀ (w : World) (H : Hp) (a : Addr) (ns : List Int), ns.length ≤ n → Only H → SqL (K w.params) H a (ns.map V.int) → sp w [.ref a] H (fun v _ => v = .bl true) fun _ _ _ => False)
    (hCX : ∀ (w : World) (H : Hp) (s : Shared) (e : Value) (s' : Shared), CX w [] H s (fun _ _ _ => False) e s' → False) :
    PySem.W.WalkO q loose XP YP l.row.toRowW d [] (fun f vs => PySem.call f vs) := by
  refine Att.attach_call hn hdf fun w s₀ s₁ mg mb fa o pm cd doc a vs ns G Y ho hd hcd hmg hobj hints hlen hg => ?_
  have KX := hY w _ Y
  obtain ⟨fd, hb, hF⟩ := F w mg fa _ KX G.T.g hmg
  exact law_call KX G.T.g G.T.b G.T.builtins G.T.nolimit hg hobj hints (Nat.le_trans hlen hn2) hr hF hb (fun H hO hS => hsp w H a ns hlen hO hS) fun H e s' => hCX w H s₁ e s'
end L2
/- THE LAST THEOREM (shape; LID, My.* are yours):
   My.Adr: a structure of the addresses that your layer names (classes, functions); My.Txt K t: a structure (Prop) of the equations over K;
   My.txt_mk : {K} {implicit addresses ..} (e1 : nsIn K mainGlobals "law" = some (some (.ref f))) (e2 : K.lookup f = some ⟨oc, od, .func (fnOf "law" "law" params body scope dV kV doc pm an cdv ct), sl⟩) (e3 : codeIn K cdv "law" = true) .. : ∃ t, My.Txt K t
set_option maxRecDepth 100000 in
set_option maxHeartbeats 0 in
theorem PySem.Challenge.cw_LID_holds : PySem.Challenge.rw_LID.Holds := by
  w_on; o_law; k_head; (case hw => w_witness2)
  k_fill
  refine L2.walk_of (l := PySem.Challenge.rw_LID) (n := 63) (k := 40) (x := "script") (CX := fun w => ..) (sp := fun _ => My.sp_law) rfl (by decide) rfl ⟨rfl, by decide, by decide⟩ (fun w h Y => PySem.W.kIn_of Y) ?F ?S ?C
  case F =>
    intro w mg fa h KX G hmg
    have T : ∃ t, My.Txt (L2.KOf KX) t := by
      dsimp only [L2.KOf]                          -- K must stand as «<heap const> w.params» for k_is
      refine' My.txt_mk ?e1 ?e2 ?e3 ..
      (case e1 => PySem.W.k_is)                    -- in the order: a name -> its address -> its object -> its parts
      (case e2 => PySem.W.k_is)
      ..
    obtain ⟨t, T⟩ := T
    have e0 := hmg.symm.trans (PySem.W.mg_of KX G T.law)
    cases e0                                       -- fa is the law's own address
    exact ⟨_, fun s u => .of_eq rfl, fun base kb nb => My.law_fn T kb nb⟩     -- if «.of_eq rfl» comes too early: refine' ⟨_, ?b, fun base kb nb => My.law_fn T kb nb⟩; exact fun s u => .of_eq rfl
  case S => exact fun w H a ns hl hO hS => ..
  case C => exact ..
(the tactic k_is has no namespace: write k_is) -/
namespace L2
open PySem PySem.Spec PyProof.Rows
def inClass (s : Stmt) (j : Nat) : Stmt := match s with
  | .ClassDef _ _ _ body _ _ _ _ _ _ _ => body.getD j (.Pass ⟨0, 0, 0, 0⟩)
  | _ => .Pass ⟨0, 0, 0, 0⟩
def defArgs (s : Stmt) : Arguments := match s with
  | .FunctionDef _ a _ _ _ _ _ _ _ _ => a
  | _ => { posonlyargs := [], args := [], vararg := none, kwonlyargs := [], kw_defaults := [], kwarg := none, defaults := [] }
def defBody (s : Stmt) : List Stmt := match s with
  | .FunctionDef _ _ b _ _ _ _ _ _ _ => b
  | _ => []
def defScope (s : Stmt) : Scope := match s with
  | .FunctionDef _ _ _ _ _ _ sc _ _ _ => sc
  | _ => { kind := .function, names := [], isGenerator := false, isCoroutine := false }
abbrev CX0 : CXT := fun _ _ _ _ _ _ => False
abbrev E0 : XK := fun _ _ _ => False
theorem pass0 {X : Cx} : Passes CX0 X E0 := fun _ _ _ _ _ _ _ h => h.elim
structure Fun (K : PySem.W.Frag) (x qual : Str) (st : Stmt) (f : Addr) (fd : FuncData) : Prop where
  ex : ∃ (oc : Value) (od : Option Addr) (kV doc pm : Value) (an : Option Addr) (cdv ct : Value) (osl : Array (Option Value)),
    fd = PySem.W.fnOf x qual (defArgs st) (defBody st) (defScope st) .none kV doc pm an cdv ct ∧ K.lookup f = some ⟨oc, od, .func fd, osl⟩ ∧ PySem.W.codeIn K cdv qual = true
  kp : PySem.W.keepIn K (.ref f) = true
section
variable {P : Program} {w : World} {K : PySem.W.Frag} {mg : Str → Option Value} {base : Heap}
theorem Fun.ok {x qual : Str} {st : Stmt} {f : Addr} {fd : FuncData} {N ps : List Str} {k : Nat} {sp : Sp} (F : Fun K x qual st f fd) (S : FnScope N ps (defScope st)) (len : ∀ vs H Q E, sp vs H Q E → vs.length = ps.length)
    (hbody : ∀ (cdv : Value) (A : Around) (outer : List Env) (s : Shared) (H : Hp) (vs : List V) (Q : VK) (E : XK), Room k (A.deeper (envOfC qual (defScope st) s.heap.objs.size f cdv)) → sp vs H Q E →
      ∃ t, PSs (cxOf CX0 P w K mg base N qual (defScope st) f cdv A outer s H E).nox (defBody st) t ∧ t { nx := fun _ H' => Q .non H', rt := Q } (start N vs) H) : FnOk P w K mg base CX0 (k + 1) f fd ps sp := by
  obtain ⟨oc, od, kV, doc, pm, an, cdv, ct, osl, rfl, lk, hcd⟩ := F.ex
  refine fn_of lk hcd S len fun A outer s H vs Q E hr hsp => ?_
  obtain ⟨t, h, q⟩ := hbody cdv A outer s H vs Q E hr hsp
  exact ⟨t, h.nox, q⟩
theorem Fun.binds {x qual : Str} {st : Stmt} {f : Addr} {fd : FuncData} {ps : List Str} (F : Fun K x qual st f fd)
    (h : ∀ (kV doc pm : Value) (an : Option Addr) (cdv ct : Value) (us : List Value), us.length = ps.length → bindArgs (PySem.W.fnOf x qual (defArgs st) (defBody st) (defScope st) .none kV doc pm an cdv ct) ⟨us, []⟩ = pure (ps.zip us)) : Binds K fd ps [] := by
  obtain ⟨oc, od, kV, doc, pm, an, cdv, ct, osl, rfl, lk, hcd⟩ := F.ex
  exact .all (h kV doc pm an cdv ct)
theorem fun_mk {x qual : Str} {st : Stmt} {f : Addr} {oc : Value} {od an : Option Addr} {osl : Array (Option Value)} {kV doc pm cdv ct : Value} (l : K.lookup f = some ⟨oc, od, .func (PySem.W.fnOf x qual (defArgs st) (defBody st) (defScope st) .none kV doc pm an cdv ct), osl⟩)
    (c : PySem.W.codeIn K cdv qual = true) (k : PySem.W.keepIn K (.ref f) = true) : Fun K x qual st f (PySem.W.fnOf x qual (defArgs st) (defBody st) (defScope st) .none kV doc pm an cdv ct) := ⟨⟨oc, od, kV, doc, pm, an, cdv, ct, osl, rfl, l, c⟩, k⟩
end
theorem hu_of {A : Around} {k : Nat} (hr : Room k A) : A.units + 1 < cLine := Nat.lt_of_le_of_lt (Nat.add_le_add_left (by decide : 1 ≤ 64) _) hr.units
theorem small1000 {n : Nat} (h : n ≤ 1000) : n < sizeLine := Nat.lt_of_le_of_lt h (by decide)
section
variable {X : Cx}
theorem pv (i : Nat) {x : Str} {pos : Pos} (hN : X.N[i]? = some x := by rfl) (hv : Vis X.env.scope x := by first | exact Or.inl rfl | exact Or.inr (Or.inl rfl) | exact Or.inr (Or.inr rfl)) (hd : (x == ("__debug__" : Str)) = false := by decide)
    (hcd : (x == ("__classdict__" : Str)) = false := by decide) : PE X (.Name x pos) (tVar i) := pe_var hN hv hd hcd
end
def Same (H H' : Hp) : Prop := ∀ b o, H b = some o → H' b = some o
theorem Same.refl (H : Hp) : Same H H := fun _ _ h => h
theorem Same.trans {H H1 H2 : Hp} (a : Same H H1) (b : Same H1 H2) : Same H H2 := fun c o h => b c o (a c o h)
theorem Same.free {H H' : Hp} (e : Same H H') {l : Addr} (h : H' l = Option.none) : H l = Option.none := by
  cases q : H l with
  | none => rfl
  | some o =>
    rw [e l o q] at h
    cases h
theorem Same.seq {K : PySem.W.Frag} {H H' : Hp} {a : Addr} {xs : List V} (e : Same H H') (h : SqL K H a xs) : SqL K H' a xs := by
  rcases h with (h | ⟨o, h⟩) | h
  · exact .inl (.inl (e _ _ h))
  · exact .inl (.inr ⟨o, e _ _ h⟩)
  · exact .inr h
section
variable {κ : Type} [DecidableEq κ]
end
end L2
set_option Elab.async false
set_option linter.all false
set_option maxRecDepth 100000
namespace L2
open PySem PySem.Spec PyProof.Rows
section
variable {X : Cx}
def tyOf (K : PySem.W.Frag) (H : Hp) : V → String → Prop
  | .int _, T => T = "int"
  | .bl _, T => T = "bool"
  | .str _, T => T = "str"
  | .non, T => T = "NoneType"
  | .ref a, T => ((∃ xs, SqL K H a xs) ∧ T = "list") ∨ ((∃ xs, SqT K H a xs) ∧ T = "tuple")
  | _, _ => False
def isiA (Tx T : String) : Bool := Tx == T || (Tx == "bool" && T == "int")
def isiT (T : String) : Prop := T = "int" ∨ T = "bool" ∨ T = "str" ∨ T = "list" ∨ T = "tuple"
def rIsi (K : PySem.W.Frag) : List V → Hp → VK → Prop := fun vs H Q => ∃ x T Tx, vs = [x, .ty T] ∧ tyOf K H x Tx ∧ isiT T ∧ Q (.bl (isiA Tx T)) H
theorem cr_isi : CallR X (.builtin "isinstance") (rIsi X.K) := by
  intro pins s σ H vs us Q I r h
  obtain ⟨x, T, Tx, rfl, hx, hT, q⟩ := h
  obtain ⟨u, v, rfl, ru, rv⟩ := Vals.two r
  cases rv
  cases x with
  | int i =>
    obtain ⟨t, rfl⟩ := ru
    have hx' : Tx = "int" := hx
    subst hx'
    rcases hT with rfl | rfl | rfl | rfl | rfl
    · exact call_isinstance_yes (typeIs_int _ _ _) F.isi_meta_int F.isi_self_int ⟨.bl true, H, I, rfl, q⟩
    · exact call_isinstance (isinstance_false_int (by decide) F.isi_meta_bool (by rw [isSubtype_type]; kernel_rfl)) ⟨.bl false, H, I.tok _, rfl, q⟩
    · exact call_isinstance (isinstance_false_int (by decide) F.isi_meta_str (by rw [isSubtype_type]; kernel_rfl)) ⟨.bl false, H, I.tok _, rfl, q⟩
    · exact call_isinstance (isinstance_false_int (by decide) F.isi_meta_list (by rw [isSubtype_type]; kernel_rfl)) ⟨.bl false, H, I.tok _, rfl, q⟩
    · exact call_isinstance (isinstance_false_int (by decide) F.isi_meta_tuple (by rw [isSubtype_type]; kernel_rfl)) ⟨.bl false, H, I.tok _, rfl, q⟩
  | bl b =>
    cases ru
    have hx' : Tx = "bool" := hx
    subst hx'
    rcases hT with rfl | rfl | rfl | rfl | rfl
    · exact call_isinstance_yes (Tx := "bool") (by first | exact typeIs_bool _ _ | exact rfl) F.isi_meta_int (by rw [isSubtype_type]; kernel_rfl) ⟨.bl true, H, I, rfl, q⟩
    · exact call_isinstance_yes (Tx := "bool") (by first | exact typeIs_bool _ _ | exact rfl) F.isi_meta_bool F.isi_self_bool ⟨.bl true, H, I, rfl, q⟩
    · exact call_isinstance (isinstance_false_bool (by decide) F.isi_meta_str (by rw [isSubtype_type]; kernel_rfl)) ⟨.bl false, H, I.tok _, rfl, q⟩
    · exact call_isinstance (isinstance_false_bool (by decide) F.isi_meta_list (by rw [isSubtype_type]; kernel_rfl)) ⟨.bl false, H, I.tok _, rfl, q⟩
    · exact call_isinstance (isinstance_false_bool (by decide) F.isi_meta_tuple (by rw [isSubtype_type]; kernel_rfl)) ⟨.bl false, H, I.tok _, rfl, q⟩
  | str z =>
    obtain ⟨t, rfl⟩ := ru
    have hx' : Tx = "str" := hx
    subst hx'
    rcases hT with rfl | rfl | rfl | rfl | rfl
    · exact call_isinstance (isinstance_false_str (by decide) F.isi_meta_int (by rw [isSubtype_type]; kernel_rfl)) ⟨.bl false, H, I.tok _, rfl, q⟩
    · exact call_isinstance (isinstance_false_str (by decide) F.isi_meta_bool (by rw [isSubtype_type]; kernel_rfl)) ⟨.bl false, H, I.tok _, rfl, q⟩
    · exact call_isinstance_yes (typeIs_str _ _ _) F.isi_meta_str F.isi_self_str ⟨.bl true, H, I, rfl, q⟩
    · exact call_isinstance (isinstance_false_str (by decide) F.isi_meta_list (by rw [isSubtype_type]; kernel_rfl)) ⟨.bl false, H, I.tok _, rfl, q⟩
    · exact call_isinstance (isinstance_false_str (by decide) F.isi_meta_tuple (by rw [isSubtype_type]; kernel_rfl)) ⟨.bl false, H, I.tok _, rfl, q⟩
  | non =>
    cases ru
    have hx' : Tx = "NoneType" := hx
    subst hx'
    rcases hT with rfl | rfl | rfl | rfl | rfl
    · exact call_isinstance (isinstance_false_none (by decide) F.isi_meta_int (by rw [isSubtype_type]; kernel_rfl)) ⟨.bl false, H, I.tok _, rfl, q⟩
    · exact call_isinstance (isinstance_false_none (by decide) F.isi_meta_bool (by rw [isSubtype_type]; kernel_rfl)) ⟨.bl false, H, I.tok _, rfl, q⟩
    · exact call_isinstance (isinstance_false_none (by decide) F.isi_meta_str (by rw [isSubtype_type]; kernel_rfl)) ⟨.bl false, H, I.tok _, rfl, q⟩
    · exact call_isinstance (isinstance_false_none (by decide) F.isi_meta_list (by rw [isSubtype_type]; kernel_rfl)) ⟨.bl false, H, I.tok _, rfl, q⟩
    · exact call_isinstance (isinstance_false_none (by decide) F.isi_meta_tuple (by rw [isSubtype_type]; kernel_rfl)) ⟨.bl false, H, I.tok _, rfl, q⟩
  | ref a =>
    cases ru
    rcases hx with ⟨⟨xs, hx⟩, rfl⟩ | ⟨⟨xs, hx⟩, rfl⟩
    · obtain ⟨its, _, ⟨o, n, ho, hc, hdn, hd⟩, _⟩ := I.list hx
      have ty : s.TypeIs (.ref a) "list" := ⟨o, ho, hc⟩
      rcases hT with rfl | rfl | rfl | rfl | rfl
      · exact call_isinstance (isinstance_false_list (by decide) F.isi_meta_int (by rw [isSubtype_type]; kernel_rfl)) ⟨ty, ⟨.bl false, H, I.tok _, rfl, q⟩⟩
      · exact call_isinstance (isinstance_false_list (by decide) F.isi_meta_bool (by rw [isSubtype_type]; kernel_rfl)) ⟨ty, ⟨.bl false, H, I.tok _, rfl, q⟩⟩
      · exact call_isinstance (isinstance_false_list (by decide) F.isi_meta_str (by rw [isSubtype_type]; kernel_rfl)) ⟨ty, ⟨.bl false, H, I.tok _, rfl, q⟩⟩
      · exact call_isinstance_yes ty F.isi_meta_list F.isi_self_list ⟨.bl true, H, I, rfl, q⟩
      · exact call_isinstance (isinstance_false_list (by decide) F.isi_meta_tuple (by rw [isSubtype_type]; kernel_rfl)) ⟨ty, ⟨.bl false, H, I.tok _, rfl, q⟩⟩
    · obtain ⟨its, _, ⟨o, ho, hc, n, hd⟩, _⟩ := I.tuple hx
      have ty : s.TypeIs (.ref a) "tuple" := ⟨o, ho, hc⟩
      rcases hT with rfl | rfl | rfl | rfl | rfl
      · exact call_isinstance (isinstance_false_tuple (by decide) F.isi_meta_int (by rw [isSubtype_type]; kernel_rfl)) ⟨ty, ⟨.bl false, H, I.tok _, rfl, q⟩⟩
      · exact call_isinstance (isinstance_false_tuple (by decide) F.isi_meta_bool (by rw [isSubtype_type]; kernel_rfl)) ⟨ty, ⟨.bl false, H, I.tok _, rfl, q⟩⟩
      · exact call_isinstance (isinstance_false_tuple (by decide) F.isi_meta_str (by rw [isSubtype_type]; kernel_rfl)) ⟨ty, ⟨.bl false, H, I.tok _, rfl, q⟩⟩
      · exact call_isinstance (isinstance_false_tuple (by decide) F.isi_meta_list (by rw [isSubtype_type]; kernel_rfl)) ⟨ty, ⟨.bl false, H, I.tok _, rfl, q⟩⟩
      · exact call_isinstance_yes ty F.isi_meta_tuple F.isi_self_tuple ⟨.bl true, H, I, rfl, q⟩
  | _ => exact absurd hx (by intro z; exact z)
def rCount (K : PySem.W.Frag) : V → List V → Hp → VK → Prop := fun x xs H Q => ∃ (a : Addr) (ys : List V) (y : V), x = V.ref a ∧ xs = [y] ∧ SqL K H a ys ∧ flatV y = true ∧ ys.all flatV = true ∧
  Q (.int ((ys.countP fun z => eqV z y : Nat) : Int)) H
theorem tuple_addW0 (l b : Addr) (items items2 : Array Value) (n n2 : Nat) (dd dd2 : Option Addr) (sl sl2 : Array (Option Value)) (hc0 : items.isEmpty = true) :
    Meets (Builtin.«tuple.__add__» ⟨[.ref l, .ref b], []⟩) (fun _ R s => s.heap.get? l = some { cls := .type "tuple", dict := dd, data := .seq items n, slots := sl } ∧ s.heap.get? b = some { cls := .type "tuple", dict := dd2, data := .seq items2 n2, slots := sl2 } ∧ R (.ok (.ret (Value.ref b))) { s with heap := s.heap, toks := s.toks }) :=
  .of_wp fun prog w A R s h => by obtain ⟨hp, g, d, tk, os⟩ := s; obtain ⟨hl, hb, h⟩ := h; have f1 := AutoSeq1.idx_int; have f2 := AutoSeq1.sub_tuple_tuple; have f3 := AutoSeq1.sub_list_list; have f4 := AutoSeq1.sub_tuple_list; have f5 := AutoSeq1.sub_list_tuple; wp_walk using wpAny_loadPart' hl, wpAny_loadPart' hb; exact ⟨_, rfl, h⟩
def rCatA (K : PySem.W.Frag) : R2 := fun x y H Q => ∃ a b xs ys, x = .ref a ∧ y = .ref b ∧ SqT K H a xs ∧ SqT K H b ys ∧ xs.length + ys.length ≤ sizeLine ∧
  (xs = [] → Q (.ref b) H) ∧ (xs ≠ [] → ys = [] → Q (.ref a) H) ∧ (xs ≠ [] → ys ≠ [] → ∀ p, H p = none → Q (.ref p) (upd H p (.tup (xs ++ ys))))
theorem op_catA : OpR X (binaryOp .Add) (rCatA X.K) := by
  intro pins s σ H x y v u Q I rx ry h
  obtain ⟨a, b, xs, ys, rfl, rfl, ha, hb, hz, q0, q1, q2⟩ := h
  by_cases hx : xs = []
  · cases rx
    cases ry
    obtain ⟨its, r1, p1, _⟩ := I.tuple ha
    obtain ⟨its2, r2, p2, _⟩ := I.tuple hb
    obtain ⟨⟨cls, dd, data, sl⟩, ho, hc, n, hd⟩ := id p1
    obtain ⟨⟨cls2, dd2, data2, sl2⟩, ho2, hc2, n2, hd2⟩ := id p2
    simp only at hc hd hc2 hd2
    subst hc hd hc2 hd2
    have e : its = [] := r1.nil_iff.mpr hx
    exact concat_meets ⟨_, ho, rfl⟩ ⟨_, ho2, rfl⟩ noFill_tuple_add seq_tuple_add PySem.F.slot_tuple_add PySem.F.entry_tuple_add (PySem.F.args_tuple_add_2 _ _)
      (tuple_addW0 a b its.toArray its2.toArray n n2 dd dd2 sl sl2 (by simp [e])) ⟨ho, ho2, ⟨.ref b, H, I, rfl, q0 hx⟩⟩
  · exact op_catT pins s σ H _ _ v u Q I rx ry ⟨a, b, xs, ys, rfl, rfl, ha, hb, hx, hz, q1 hx, q2 hx⟩
theorem noFill_tuple_mul' : fillsNumberSlot (.type "tuple") "mul" = pure false :=
  PySem.fillsNumberSlot_seq (id := "tuple.__mul__") (r := some (.builtin "tuple.__rmul__")) F.slot_tuple_mul.lookup (by decide +kernel) F.slot_tuple_rmul.lookup (by decide +kernel)
theorem repeat_tuple' : seqRepeat? (.type "tuple") = pure (some (.builtin "tuple.__mul__")) := by
  unfold seqRepeat?
  rw [PySem.seqSlot_of (T := "tuple") (name := "__mul__") (id := "tuple.__mul__") F.slot_tuple_mul.lookup (by decide +kernel), PySem.seqSlot_of (T := "tuple") (name := "__rmul__") (id := "tuple.__rmul__") F.slot_tuple_rmul.lookup (by decide +kernel)]
  rfl
theorem int_rmul_tuple (a : Int) (t : Tok) (l : Addr) (items : Array Value) (n : Nat) (dd : Option Addr) (sl : Array (Option Value)) :
    Meets (Builtin.«int.__rmul__» ⟨[.int a t, .ref l], []⟩) (fun _ R s => s.heap.get? l = some { cls := .type "tuple", dict := dd, data := .seq items n, slots := sl } ∧ R (.ok (.ret Value.notImplemented)) s) :=
  .of_wp fun prog w A R s h => by obtain ⟨hp, g, d, tk, os⟩ := s; obtain ⟨hl, h⟩ := h; wp_walk using wpAny_loadPart' hl; exact ⟨_, rfl, h⟩
theorem tuple_mul1 (l : Addr) (items : Array Value) (n : Nat) (dd : Option Addr) (sl : Array (Option Value)) (u : Tok) :
    Meets (Builtin.«tuple.__mul__» ⟨[.ref l, .int 1 u], []⟩) (fun _ R s => s.heap.get? l = some { cls := .type "tuple", dict := dd, data := .seq items n, slots := sl } ∧ R (.ok (.ret (Value.ref l))) { s with heap := s.heap, toks := s.toks }) :=
  .of_wp fun prog w A R s h => by
    obtain ⟨hp, g, d, tk, os⟩ := s; obtain ⟨hl, h⟩ := h
    have f1 := AutoSeq1.idx_int; have f2 := AutoSeq1.sub_tuple_tuple; have f3 := AutoSeq1.sub_list_list; have f4 := AutoSeq1.sub_tuple_list; have f5 := AutoSeq1.sub_list_tuple
    have hb : (decide ((1 : Int) < -(2 ^ 63)) || decide ((1 : Int) ≥ 2 ^ 63)) = false := by decide
    have hc : (items.isEmpty || (1 : Int) == 1) = true := by simp
    wp_walk using wpAny_loadPart' hl
    exact ⟨_, rfl, h⟩
theorem tuple_mul0 (l : Addr) (items : Array Value) (n : Nat) (dd : Option Addr) (sl : Array (Option Value)) (u : Tok) (hne : ¬ items.isEmpty = true) :
    Meets (Builtin.«tuple.__mul__» ⟨[.ref l, .int 0 u], []⟩) (fun _ R s => s.heap.get? l = some { cls := .type "tuple", dict := dd, data := .seq items n, slots := sl } ∧ R (.ok (.ret (Value.ref s.heap.objs.size))) { s with heap := s.heap.push { cls := Value.type "tuple", data := Data.seq #[] }, toks := s.toks }) :=
  .of_wp fun prog w A R s h => by
    obtain ⟨hp, g, d, tk, os⟩ := s; obtain ⟨hl, h⟩ := h
    have f1 := AutoSeq1.idx_int; have f2 := AutoSeq1.sub_tuple_tuple; have f3 := AutoSeq1.sub_list_list; have f4 := AutoSeq1.sub_tuple_list; have f5 := AutoSeq1.sub_list_tuple
    have hb : (decide ((0 : Int) < -(2 ^ 63)) || decide ((0 : Int) ≥ 2 ^ 63)) = false := by decide
    have hc : ¬ (items.isEmpty || (0 : Int) == 1) = true := by simpa using hne
    wp_walk using wpAny_loadPart' hl
    exact ⟨_, rfl, h⟩
theorem tuple_mulN (l : Addr) (items : Array Value) (n : Nat) (dd : Option Addr) (sl : Array (Option Value)) (k : Int) (u : Tok) (hne : ¬ items.isEmpty = true) (hk : 2 ≤ k) (hz : items.size * k.toNat ≤ sizeLine) (hz2 : k < 2 ^ 63) (hz4 : (List.foldl (fun x1 x2 => x1 ++ x2) #[] (List.replicate k.toNat items)).size ≤ sizeLine) :
    Meets (Builtin.«tuple.__mul__» ⟨[.ref l, .int k u], []⟩) (fun _ R s => s.heap.get? l = some { cls := .type "tuple", dict := dd, data := .seq items n, slots := sl } ∧ R (.ok (.ret (Value.ref s.heap.objs.size))) { s with heap := s.heap.push { cls := Value.type "tuple", data := Data.seq ((List.replicate k.toNat items).foldl (· ++ ·) #[]) }, toks := s.toks }) :=
  .of_wp fun prog w A R s h => by
    obtain ⟨hp, g, d, tk, os⟩ := s; obtain ⟨hl, h⟩ := h
    have f1 := AutoSeq1.idx_int; have f2 := AutoSeq1.sub_tuple_tuple; have f3 := AutoSeq1.sub_list_list; have f4 := AutoSeq1.sub_tuple_list; have f5 := AutoSeq1.sub_list_tuple
    have hb : (decide (k < -(2 ^ 63)) || decide (k ≥ 2 ^ 63)) = false := by simp; omega
    have hne' : items.isEmpty = false := by simpa using hne
    have hc : (items.isEmpty || k == 1) = false := by rw [hne']; simp; omega
    have hd : (decide (k ≤ 0) || items.isEmpty) = false := by rw [hne']; simp; omega
    have hz3 : (items.size : Int) * k ≤ sizeLine := by
      have : ((items.size * k.toNat : Nat) : Int) = (items.size : Int) * k := by rw [Int.natCast_mul, Int.toNat_of_nonneg (by omega)]
      rw [← this]; exact Int.ofNat_le.mpr hz
    have hsl : (sizeLine : Int) ≤ (2 ^ 63 - 1) / 8 := by decide
    wp_walk using wpAny_loadPart' hl
    refine wpAny_ite_false (decide_eq_false (by rw [hb]; exact Bool.false_ne_true)) ?_
    wp_walk using wpAny_loadPart' hl
    refine wpAny_ite_false (decide_eq_false (by rw [hc]; exact Bool.false_ne_true)) ?_
    wp_walk using wpAny_loadPart' hl
    refine wpAny_ite_false (decide_eq_false (by rw [hd]; exact Bool.false_ne_true)) ?_
    wp_walk using wpAny_loadPart' hl
    refine wpAny_ite_false (decide_eq_false (by omega)) ?_
    wp_walk using wpAny_loadPart' hl
    refine wpAny_ite_false (decide_eq_false (by unfold Builtin.Tuple.tupleTooMany; simp; omega)) ?_
    wp_walk using wpAny_loadPart' hl
    exact ⟨_, rfl, h⟩
def rRepT (K : PySem.W.Frag) : R2 := fun x y H Q => ∃ a v k, x = .ref a ∧ y = .int k ∧ SqT K H a [v] ∧ 0 ≤ k ∧ k ≤ 1000 ∧
  (k = 1 → Q (.ref a) H) ∧ (k ≠ 1 → ∀ p, H p = none → Q (.ref p) (upd H p (.tup (List.replicate k.toNat v))))
theorem foldl_rep1 (u : Value) (k : Nat) : ∀ acc : Array Value, (List.replicate k #[u]).foldl (· ++ ·) acc = acc ++ (List.replicate k u).toArray := by
  induction k with
  | zero => intro acc; simp
  | succ k ih =>
    intro acc
    rw [List.replicate_succ, List.foldl_cons, ih, List.replicate_succ]
    apply Array.ext'
    simp [List.replicate_succ]
theorem Vals.replicate {v : V} {u : Value} (r : RelV v u) : ∀ k : Nat, Vals (List.replicate k v) (List.replicate k u)
  | 0 => .nil
  | k + 1 => .cons r (Vals.replicate r k)
theorem op_repT : OpR X (binaryOp .Mult) (rRepT X.K) := by
  intro pins s σ H x y v u Q I rx ry h
  obtain ⟨a, z, k, rfl, rfl, ha, h0, h1, q1, q2⟩ := h
  cases rx
  obtain ⟨t, rfl⟩ := ry
  obtain ⟨its, r, p1, _⟩ := I.tuple ha
  obtain ⟨w1, rfl, rw1⟩ := Vals.one r
  obtain ⟨⟨cls, dd, data, sl⟩, ho, hc, n, hd⟩ := id p1
  simp only at hc hd
  subst hc hd
  have hsl : (1000 : Nat) ≤ sizeLine := by decide
  have new : ∀ m : Nat, m ≤ 1000 → Inv X pins σ (upd H s.heap.objs.size (.tup (List.replicate m z))) { s with heap := s.heap.push { cls := Value.type "tuple", data := Data.seq (List.replicate m w1).toArray }, toks := s.toks } := fun m hm =>
    I.laid (t' := s.toks) (o := .tup (List.replicate m z)) (fun b ob q => Heap.get?_push_of_some _ q) (Nat.le_refl _) ⟨by rw [List.length_replicate]; omega, _, Vals.replicate rw1 m, IsTup.new _ _⟩
  refine wpAny_binaryOp_repeat_ref (T := "tuple") (U := "int") (by decide) ⟨_, ho, rfl⟩ (fun s' => typeIs_int s' k t) noFill_tuple_mul' F.fills_int_mul F.slot_int_rmul repeat_tuple' F.slot_int_index.lookup
    (call_meets F.slot_int_rmul (typeIs_int s k t) F.entry_int_rmul (F.args_int_rmul_2 _ _) (int_rmul_tuple k t a [w1].toArray n dd sl)
      ⟨ho, rfl, ⟨_, ho, rfl⟩, ?_⟩)
  by_cases e1 : k = 1
  · subst e1
    exact call_meets F.slot_tuple_mul ⟨_, ho, rfl⟩ F.entry_tuple_mul (F.args_tuple_mul_2 _ _) (tuple_mul1 a [w1].toArray n dd sl t) ⟨ho, ⟨.ref a, H, I, rfl, q1 rfl⟩⟩
  · by_cases e0 : k = 0
    · subst e0
      exact call_meets F.slot_tuple_mul ⟨_, ho, rfl⟩ F.entry_tuple_mul (F.args_tuple_mul_2 _ _) (tuple_mul0 a [w1].toArray n dd sl t (by simp)) ⟨ho, ⟨.ref _, _, new 0 (by omega), rfl, q2 (by decide) _ (I.hok.fresh (Nat.le_refl _))⟩⟩
    · have e : (List.replicate k.toNat [w1].toArray).foldl (· ++ ·) #[] = (List.replicate k.toNat w1).toArray := by
        have := foldl_rep1 w1 k.toNat #[]
        rw [Array.empty_append] at this
        exact this
      refine call_meets F.slot_tuple_mul ⟨_, ho, rfl⟩ F.entry_tuple_mul (F.args_tuple_mul_2 _ _) (tuple_mulN a [w1].toArray n dd sl k t (by simp) (by omega) (by simp; omega) (by omega) (by rw [e]; simp; omega)) ⟨ho, ?_⟩
      rw [e]
      exact ⟨.ref _, _, new k.toNat (by omega), rfl, q2 e1 _ (I.hok.fresh (Nat.le_refl _))⟩
def cInts : List Expr → Option (List Int)
  | [] => some []
  | .Constant (.int i) _ _ :: r => (cInts r).map (i :: ·)
  | _ => none
def tInts (ns : List Int) : TA := fun _ H Q => Q (ns.map V.int) H
theorem pa_ints : ∀ {es : List Expr} {ns : List Int}, cInts es = some ns → PA X es (tInts ns)
  | [], _, h => by cases h; exact pa_nil
  | .Constant (.int i) a b :: r, ns, h => by
    have h' : (cInts r).map (i :: ·) = some ns := h
    cases e : cInts r with
    | none => rw [e] at h'; cases h'
    | some ms =>
      rw [e] at h'
      cases h'
      exact pa_cons (te := tC (.int i)) pe_int (pa_ints e) rfl
end
end L2
set_option Elab.async false
set_option linter.all false
set_option maxRecDepth 100000
set_option maxHeartbeats 400000
namespace L2
open PySem PySem.Spec PyProof.Rows
section
variable {prog : Program} {w : World} {A : Around} {E : Value → Shared → Prop} {s : Shared}
end
section
variable {X : Cx}
def tTR (ta : TA) : TE := fun σ H Q => ta σ H fun vs H1 => ∃ j : Nat, vs = [.int (j : Int)] ∧ j ≤ 1000 ∧ ∀ p, H1 p = none → Q (.ref p) (upd H1 p (.tup ((List.range j).map fun (k : Nat) => V.int (k : Int))))
end
section
variable {X : Cx}
def rCountT (K : PySem.W.Frag) : V → List V → Hp → VK → Prop := fun x xs H Q => ∃ (a : Addr) (ys : List V) (y : V), x = V.ref a ∧ xs = [y] ∧ SqT K H a ys ∧ flatV y = true ∧ ys.all flatV = true ∧
  Q (.int ((ys.countP fun z => eqV z y : Nat) : Int)) H
end
section
variable {X : Cx}
def tBMT (r : V → List V → Hp → VK → Prop) (to : TE) (t : TA) : TE := fun σ H Q => to σ H fun x H1 => (∃ a o ys, x = .ref a ∧ H1 a = some (.frz o (.tup ys)) ∧ o.dict = none) ∧ t σ H1 fun xs H2 => r x xs H2 Q
end
end L2
set_option Elab.async false
set_option linter.all false
set_option maxRecDepth 100000
set_option maxHeartbeats 400000
namespace L2
open PySem PySem.Spec PyProof.Rows
section
variable {prog : Program} {w : World} {A : Around} {E : Value → Shared → Prop} {s : Shared}
theorem nt_item {j t : Addr} {k : Nat} {its : Array Value} {x : Value} {Q : Value → Shared → Prop} (hj : s.heap.IsTupleIter j t k) (ht : s.heap.IsTuple t its) (hx : its[k]? = some x)
    (q : ∀ h', h'.IsTupleIter j t (k + 1) → Heap.SameBut j s.heap h' → Q x { s with heap := h' }) : wpAny (model prog w) A (Builtin.SmallTypes.nextOf (.ref j)) Q E s := by
  obtain ⟨oj, gj, cj, dj⟩ := id hj
  obtain ⟨ot, gt, _, nt, dt⟩ := ht
  unfold Builtin.SmallTypes.nextOf
  refine wpAny_bind (wpAny_callSpecial?_slot (name := Str.ofString "__next__") hj.typeIs PySem.F.slot_tuple_iterator_next (wpAny_call_entry PySem.F.slot_tuple_iterator_next hj.typeIs PySem.F.entry_tuple_iterator_next ?_ (PySem.F.args_tuple_iterator_next_1 _)))
  show wpAny _ _ (field (.ref j) 0 >>= _) _ _ s
  refine wpAny_bind (wpAny_field gj dj (x := .ref t) rfl ?_)
  show wpAny _ _ (if (Value.ref t == Value.none) = true then _ else _) _ _ _
  rw [if_neg (fun z : (Value.ref t == Value.none) = true => Bool.false_ne_true z)]
  show wpAny _ _ (field (.ref j) 1 >>= _) _ _ s
  refine wpAny_bind (wpAny_field gj dj (x := .int k 0) rfl ?_)
  show wpAny _ _ (seqItems? (Value.ref t) >>= _) _ _ s
  refine wpAny_bind (wpAny_seqItems gt dt ?_)
  simp only [Int.toNat_natCast, hx]
  refine wpAny_bind (wpAny_setField gj dj (by simp) (wpAny_pure ⟨x, rfl, wpAny_pure (q _ ?_ (Heap.SameBut.update ..))⟩))
  refine ⟨_, Heap.get?_update_self _ gj (Obj.isFreed_of_fields (Obj.data_mapFields dj _)), (Obj.cls_mapFields ..).trans cj, ?_⟩
  rw [Obj.data_mapFields dj]
  simp [rawInt]
theorem nt_end {j t : Addr} {k : Nat} {its : Array Value} {Q : Value → Shared → Prop} (hh : A.handled = none) (hj : s.heap.IsTupleIter j t k) (ht : s.heap.IsTuple t its) (hx : its[k]? = none)
    (q : ∀ h' e, Heap.ExtBut j s.heap h' → (∃ o, h'.get? e = some o ∧ o.cls = .type "StopIteration") → E (.ref e) { s with heap := h' }) : wpAny (model prog w) A (Builtin.SmallTypes.nextOf (.ref j)) Q E s := by
  obtain ⟨oj, gj, cj, dj⟩ := id hj
  obtain ⟨ot, gt, _, nt, dt⟩ := ht
  unfold Builtin.SmallTypes.nextOf
  refine wpAny_bind (wpAny_callSpecial?_slot (name := Str.ofString "__next__") hj.typeIs PySem.F.slot_tuple_iterator_next (wpAny_call_entry PySem.F.slot_tuple_iterator_next hj.typeIs PySem.F.entry_tuple_iterator_next ?_ (PySem.F.args_tuple_iterator_next_1 _)))
  show wpAny _ _ (field (.ref j) 0 >>= _) _ _ s
  refine wpAny_bind (wpAny_field gj dj (x := .ref t) rfl ?_)
  show wpAny _ _ (if (Value.ref t == Value.none) = true then _ else _) _ _ _
  rw [if_neg (fun z : (Value.ref t == Value.none) = true => Bool.false_ne_true z)]
  show wpAny _ _ (field (.ref j) 1 >>= _) _ _ s
  refine wpAny_bind (wpAny_field gj dj (x := .int k 0) rfl ?_)
  show wpAny _ _ (seqItems? (Value.ref t) >>= _) _ _ s
  refine wpAny_bind (wpAny_seqItems gt dt ?_)
  simp only [Int.toNat_natCast, hx]
  refine wpAny_bind (wpAny_rule (wpAny_bind (wpAny_setField gj dj (by simp) (wpAny_bind ?_))))
  simp only [newExc, newTuple]
  refine wpAny_bind (wpAny_newObj_type ?_ (by size_fits))
  refine wpAny_bind (m := firstArgMember _ _) (wpAny_of_eq (a := Value.none) (by first | rfl | (simp only [firstArgMember] <;> rfl)) (wpAny_newObj_type ?_ (by size_fits)))
  simp only [raiseNew]
  refine wpAny_bind (wpAny_handled ?_)
  rw [show A.in1.handled = none from hh]
  exact wpAny_bind (wpAny_pure (wpAny_throw (q _ _ (((Heap.SameBut.update ..).extBut.push _).push _) ⟨_, Heap.get?_push_size _ rfl, rfl⟩)))
theorem ti_at {h h' : Heap} {j t : Addr} {k : Nat} (x : h.IsTupleIter j t k) (f : ∀ o, h.get? j = some o → h'.get? j = some o) : h'.IsTupleIter j t k := let ⟨o, e, r⟩ := x; ⟨o, f o e, r⟩
theorem tu_at {h h' : Heap} {t : Addr} {xs : Array Value} (x : h.IsTuple t xs) (f : ∀ o, h.get? t = some o → h'.get? t = some o) : h'.IsTuple t xs := let ⟨o, e, r⟩ := x; ⟨o, f o e, r⟩
theorem zt_item {z TI TO j1 j2 t1 t2 : Addr} {k1 k2 : Nat} {xs ys : Array Value} {x y a b : Value} {Q : Value → Shared → Prop} (D : ZipApart z TI TO j1 j2 t1 t2) (hz : IsZip s.heap z TI TO .none) (hI : IsPair s.heap TI (.ref j1) (.ref j2)) (hO : IsPair s.heap TO a b)
    (h1 : s.heap.IsTupleIter j1 t1 k1) (h2 : s.heap.IsTupleIter j2 t2 k2) (u1 : s.heap.IsTuple t1 xs) (u2 : s.heap.IsTuple t2 ys) (hx : xs[k1]? = some x) (hy : ys[k2]? = some y)
    (q : ∀ h', IsZip h' z TI TO (rawInt s.heap.objs.size) → IsPair h' TO x y → h'.IsTupleIter j1 t1 (k1 + 1) → h'.IsTupleIter j2 t2 (k2 + 1) → IsPair h' s.heap.objs.size x y → h'.objs.size = s.heap.objs.size + 1 →
      (∀ c o, c ≠ z → c ≠ TO → c ≠ j1 → c ≠ j2 → s.heap.get? c = some o → h'.get? c = some o) → Q (.ref s.heap.objs.size) { s with heap := h' }) :
    wpAny (model prog w) A (Builtin.«zip.__next__» ⟨[.ref z], []⟩) (fun fin s' => ∃ v, fin = .done (.ret v) ∧ Q v s') E s := by
  show wpAny _ _ (field (Value.ref z) 2 >>= _) _ _ s
  refine wpAny_bind (wpAny_field hz rfl (x := .bool false) rfl ?_) <;> try exact s
  show wpAny _ _ (field (Value.ref z) 3 >>= _) _ _ s
  refine wpAny_bind (wpAny_field hz rfl (x := .ref TI) rfl (wpAny_bind (wpAny_seqItems hI rfl ?_)))
  show wpAny _ _ (Builtin.SmallTypes.ownedTupleIsFree (Value.ref z) >>= _) _ _ s
  refine wpAny_bind ?_
  unfold Builtin.SmallTypes.ownedTupleIsFree
  refine wpAny_bind (wpAny_field hz rfl (x := Value.none) rfl (wpAny_pure ?_))
  simp only [if_true]
  refine wpAny_bind (wpAny_rule (wpAny_bind (wpAny_field hz rfl (x := .ref TO) rfl (wpAny_bind (wpAny_setField_rec hz (by simp) fun g1 z1 e1 => wpAny_bind ?_)))))
  have z1' : IsZip g1 z TI TO .ellipsis := z1
  simp only [List.zipIdx_cons, List.zipIdx_nil, List.forIn_cons, List.forIn_nil]
  refine wpAny_bind (wpAny_bind (wpAny_onRaise (wpAny_bind ?_)))
  have n1 := ti_at h1 fun o e => e1.extBut _ o D.i1z e
  refine nt_item n1 (tu_at u1 fun o e => e1.extBut _ o D.l1z e) hx fun g2 i2 e2 => wpAny_pure ?_
  have o2 : IsPair g2 TO a b := e2.extBut _ _ D.TOi1 (e1.extBut _ _ D.TOz hO)
  refine wpAny_bind (wpAny_seqItems o2 rfl (wpAny_bind (wpAny_updateSeq_pair o2 fun g3 o3 e3 => wpAny_bind (wpAny_letGo (wpAny_pure ?_)))))
  have o3' : IsPair g3 TO x b := o3
  refine wpAny_bind (wpAny_bind (wpAny_onRaise (wpAny_bind ?_)))
  have n2 := ti_at h2 fun o e => e3.extBut _ o D.TOi2.symm (e2.extBut _ o D.i12.symm (e1.extBut _ o D.i2z e))
  refine nt_item n2 (tu_at u2 fun o e => e3.extBut _ o D.l2TO (e2.extBut _ o D.l2i1 (e1.extBut _ o D.l2z e))) hy fun g4 i4 e4 => wpAny_pure ?_
  have o4 : IsPair g4 TO x b := e4.extBut _ _ D.TOi2 o3'
  refine wpAny_bind (wpAny_seqItems o4 rfl (wpAny_bind (wpAny_updateSeq_pair o4 fun g5 o5 e5 => wpAny_bind (wpAny_letGo (wpAny_pure (wpAny_pure ?_))))))
  have o5' : IsPair g5 TO x y := o5
  refine wpAny_bind (wpAny_seqItems o5' rfl (wpAny_bind (wpAny_newTuple ?_)))
  have sz : g5.objs.size = s.heap.objs.size := by rw [e5.1, e4.1, e3.1, e2.1, e1.1]
  have z5 : IsZip g5 z TI TO .ellipsis := e5.extBut _ _ D.TOz.symm (e4.extBut _ _ D.i2z.symm (e3.extBut _ _ D.TOz.symm (e2.extBut _ _ D.i1z.symm z1')))
  have j5 : g5.IsTupleIter j1 t1 (k1 + 1) := ti_at i2 fun o e => e5.extBut _ o D.TOi1.symm (e4.extBut _ o D.i12 (e3.extBut _ o D.TOi1.symm e))
  have l5 : g5.IsTupleIter j2 t2 (k2 + 1) := ti_at i4 fun o e => e5.extBut _ o D.TOi2.symm e
  have zl : z < g5.objs.size := Heap.lt_size z5
  show wpAny _ _ (Builtin.SmallTypes.ownedTupleHandOut (Value.ref z) (.ref g5.objs.size) >>= _) _ _ _
  refine wpAny_bind ?_
  unfold Builtin.SmallTypes.ownedTupleHandOut
  refine wpAny_bind (wpAny_setField_rec (s := { s with heap := g5.push { cls := .type "tuple", data := .seq #[x, y] } }) (Heap.get?_push_of_some _ z5) (by simp) fun g7 z7 e7 => ?_)
  have z7' : IsZip g7 z TI TO (rawInt g5.objs.size) := z7
  refine wpAny_setField_rec z7' (by simp) fun g8 z8 e8 => ?_
  have z8' : IsZip g8 z TI TO (rawInt g5.objs.size) := z8
  have up : ∀ c o, c ≠ z → g5.get? c = some o → g8.get? c = some o := fun c o n e => e8.extBut _ _ n (e7.extBut _ _ n (Heap.get?_push_of_some _ e))
  have t8 : IsPair g8 g5.objs.size x y := e8.extBut _ _ (Nat.ne_of_gt zl) (e7.extBut _ _ (Nat.ne_of_gt zl) (Heap.get?_push_size _ rfl))
  have y8 : g8.objs.size = g5.objs.size + 1 := by rw [e8.1, e7.1, Heap.size_push]
  rw [sz] at z8' t8 y8
  refine wpAny_pure ⟨_, rfl, ?_⟩
  show Q (.ref g5.objs.size) _
  rw [sz]
  exact q g8 z8' (up _ _ D.TOz o5') (ti_at j5 fun o e => up _ o D.i1z e) (ti_at l5 fun o e => up _ o D.i2z e) t8 y8 fun c o c1 c2 c3 c4 e =>
    up c o c1 (e5.extBut _ _ c2 (e4.extBut _ _ c4 (e3.extBut _ _ c2 (e2.extBut _ _ c3 (e1.extBut _ _ c1 e)))))
theorem zt_end {z TI TO j1 j2 t1 t2 : Addr} {k1 : Nat} {xs : Array Value} {a b : Value} {Q : Fin → Shared → Prop} (hh : A.handled = none) (D : ZipApart z TI TO j1 j2 t1 t2) (hz : IsZip s.heap z TI TO .none) (hI : IsPair s.heap TI (.ref j1) (.ref j2)) (hO : IsPair s.heap TO a b)
    (h1 : s.heap.IsTupleIter j1 t1 k1) (u1 : s.heap.IsTuple t1 xs) (hx : xs[k1]? = none)
    (q : ∀ h' e, (∀ c o, c ≠ z → c ≠ TO → c ≠ j1 → c ≠ j2 → s.heap.get? c = some o → h'.get? c = some o) → (∃ o, h'.get? e = some o ∧ o.cls = .type "StopIteration") → E (.ref e) { s with heap := h' }) :
    wpAny (model prog w) A (Builtin.«zip.__next__» ⟨[.ref z], []⟩) Q E s := by
  show wpAny _ _ (field (Value.ref z) 2 >>= _) _ _ s
  refine wpAny_bind (wpAny_field hz rfl (x := .bool false) rfl ?_) <;> try exact s
  show wpAny _ _ (field (Value.ref z) 3 >>= _) _ _ s
  refine wpAny_bind (wpAny_field hz rfl (x := .ref TI) rfl (wpAny_bind (wpAny_seqItems hI rfl ?_)))
  show wpAny _ _ (Builtin.SmallTypes.ownedTupleIsFree (Value.ref z) >>= _) _ _ s
  refine wpAny_bind ?_
  unfold Builtin.SmallTypes.ownedTupleIsFree
  refine wpAny_bind (wpAny_field hz rfl (x := Value.none) rfl (wpAny_pure ?_))
  simp only [if_true]
  refine wpAny_bind (wpAny_rule (wpAny_bind (wpAny_field hz rfl (x := .ref TO) rfl (wpAny_bind (wpAny_setField_rec hz (by simp) fun g1 z1 e1 => wpAny_bind ?_)))))
  have z1' : IsZip g1 z TI TO .ellipsis := z1
  simp only [List.zipIdx_cons, List.zipIdx_nil, List.forIn_cons, List.forIn_nil]
  refine wpAny_bind (wpAny_bind (wpAny_onRaise (wpAny_bind ?_)))
  refine nt_end hh (ti_at h1 fun o e => e1.extBut _ o D.i1z e) (tu_at u1 fun o e => e1.extBut _ o D.l1z e) hx fun g2 e e2 he => ?_
  obtain ⟨oe, ge, ce⟩ := he
  have z2 : IsZip g2 z TI TO .ellipsis := e2 _ _ D.i1z.symm z1'
  have ez : e ≠ z := fun x => by subst x; rw [z2] at ge; cases ge; simp at ce
  exact wpAny_setField_rec z2 (by simp) fun g3 _ e3 => q g3 e (fun c o c1 _ c3 _ x => e3.extBut _ _ c1 (e2 _ _ c3 (e1.extBut _ _ c1 x))) ⟨oe, e3.extBut _ _ ez ge, ce⟩
theorem pnz_item {z TI TO j1 j2 t1 t2 : Addr} {k1 k2 : Nat} {xs ys : Array Value} {x y a b : Value} {Q : Option Value → Shared → Prop} (D : ZipApart z TI TO j1 j2 t1 t2) (hz : IsZip s.heap z TI TO .none) (hI : IsPair s.heap TI (.ref j1) (.ref j2)) (hO : IsPair s.heap TO a b)
    (h1 : s.heap.IsTupleIter j1 t1 k1) (h2 : s.heap.IsTupleIter j2 t2 k2) (u1 : s.heap.IsTuple t1 xs) (u2 : s.heap.IsTuple t2 ys) (hx : xs[k1]? = some x) (hy : ys[k2]? = some y)
    (q : ∀ h', IsZip h' z TI TO (rawInt s.heap.objs.size) → IsPair h' TO x y → h'.IsTupleIter j1 t1 (k1 + 1) → h'.IsTupleIter j2 t2 (k2 + 1) → IsPair h' s.heap.objs.size x y → h'.objs.size = s.heap.objs.size + 1 →
      (∀ c o, c ≠ z → c ≠ TO → c ≠ j1 → c ≠ j2 → s.heap.get? c = some o → h'.get? c = some o) → Q (some (.ref s.heap.objs.size)) { s with heap := h' }) : wpAny (model prog w) A (pyNext (.ref z)) Q E s := by
  have ty : s.TypeIs (.ref z) "zip" := ⟨_, hz, rfl⟩
  unfold pyNext
  exact wpAny_bind (wpAny_attempt (wpAny_callSpecial?_slot (name := Str.ofString "__next__") ty PySem.F.slot_zip_next (wpAny_call_entry PySem.F.slot_zip_next ty PySem.F.entry_zip_next (zt_item D hz hI hO h1 h2 u1 u2 hx hy fun h' b1 b2 b3 b4 b5 b6 b7 => wpAny_pure (q h' b1 b2 b3 b4 b5 b6 b7)) (PySem.F.args_zip_next_1 _))))
theorem pnz_end {z TI TO j1 j2 t1 t2 : Addr} {k1 : Nat} {xs : Array Value} {a b : Value} {Q : Option Value → Shared → Prop} (hh : A.handled = none) (D : ZipApart z TI TO j1 j2 t1 t2) (hz : IsZip s.heap z TI TO .none) (hI : IsPair s.heap TI (.ref j1) (.ref j2)) (hO : IsPair s.heap TO a b)
    (h1 : s.heap.IsTupleIter j1 t1 k1) (u1 : s.heap.IsTuple t1 xs) (hx : xs[k1]? = none)
    (q : ∀ h', (∀ c o, c ≠ z → c ≠ TO → c ≠ j1 → c ≠ j2 → s.heap.get? c = some o → h'.get? c = some o) → Q none { s with heap := h' }) : wpAny (model prog w) A (pyNext (.ref z)) Q E s := by
  have ty : s.TypeIs (.ref z) "zip" := ⟨_, hz, rfl⟩
  unfold pyNext
  refine wpAny_bind (wpAny_attempt (wpAny_callSpecial?_slot (name := Str.ofString "__next__") ty PySem.F.slot_zip_next (wpAny_call_entry PySem.F.slot_zip_next ty PySem.F.entry_zip_next (zt_end (t2 := t2) hh D hz hI hO h1 u1 hx fun h' e hk he => ?_) (PySem.F.args_zip_next_1 _))))
  obtain ⟨oe, ge, ce⟩ := he
  exact wpAny_bind (wpAny_isInstance (T := "StopIteration") (b := true) ⟨oe, ge, ce⟩ isSubtype_stop (wpAny_pure (q _ hk)))
abbrev tz1 (h : Heap) (a : Addr) : Heap := h.push { cls := .type "tuple_iterator", data := .fields #[.ref a, .int 0 0] }
abbrev tz2 (h : Heap) (a b : Addr) : Heap := (tz1 h a).push { cls := .type "tuple_iterator", data := .fields #[.ref b, .int 0 0] }
abbrev tz3 (h : Heap) (a b : Addr) : Heap := (tz2 h a b).push { cls := .type "tuple", data := .seq #[.ref h.objs.size, .ref (tz1 h a).objs.size] }
abbrev tz4 (h : Heap) (a b : Addr) : Heap := (tz3 h a b).push { cls := .type "tuple", data := .seq #[.none, .none] }
abbrev tz5 (h : Heap) (a b : Addr) : Heap := (tz4 h a b).push { cls := .type "zip", data := .fields #[.none, .bool false, .bool false, .ref (tz2 h a b).objs.size, .ref (tz3 h a b).objs.size] }
theorem meets_zip_tup (a b : Addr) (xs ys : Array Value) : Meets (Builtin.«zip.__new__» ⟨[.type "zip", .ref a, .ref b], []⟩) (fun _ R s => s.heap.IsTuple a xs ∧ s.heap.IsTuple b ys ∧ R (.ok (.ret (.ref (tz4 s.heap a b).objs.size))) { s with heap := tz5 s.heap a b }) :=
  .of_wp fun prog w A R s h => by
    obtain ⟨hp, g, d, tk, os⟩ := s
    obtain ⟨ha, hb, h⟩ := h
    have hsub := sub_zip
    have hA : Heap.IsTuple (Shared.heap ⟨hp, g, d, tk, os⟩) a xs := ha
    have hB : Heap.IsTuple (Shared.heap ⟨hp.push { cls := .type "tuple_iterator", data := .fields #[.ref a, .int 0 0] }, g, d, tk, os⟩) b ys := tu_at hb fun o e => Heap.get?_push_of_some _ e
    wp_walk using wpAny_pyIter_tuple hA, wpAny_pyIter_tuple hB
    exact ⟨_, rfl, h⟩
theorem call_zip_tup {a b : Addr} {xs ys : Array Value} {Q : Value → Shared → Prop} (ha : s.heap.IsTuple a xs) (hb : s.heap.IsTuple b ys)
    (q : ∀ h', IsZip h' (s.heap.objs.size + 4) (s.heap.objs.size + 2) (s.heap.objs.size + 3) .none → IsPair h' (s.heap.objs.size + 2) (.ref s.heap.objs.size) (.ref (s.heap.objs.size + 1)) → IsPair h' (s.heap.objs.size + 3) .none .none →
      h'.IsTupleIter s.heap.objs.size a 0 → h'.IsTupleIter (s.heap.objs.size + 1) b 0 → (∀ c o, s.heap.get? c = some o → h'.get? c = some o) → Q (.ref (s.heap.objs.size + 4)) { s with heap := h' }) :
    wpAny (model prog w) A (call (.type "zip") [.ref a, .ref b]) Q E s := by
  refine callType_new PySem.F.called_zip (by decide) (PySem.F.typeCall_zip_2 _ _) (PySem.F.newCall_zip_2 _ _) (fun obj => PySem.F.args_object_init_3 obj _ _) PySem.F.entry_zip_new (meets_zip_tup a b xs ys) ⟨ha, hb, ?_⟩
  have y1 : (tz1 s.heap a).objs.size = s.heap.objs.size + 1 := Heap.size_push ..
  have y2 : (tz2 s.heap a b).objs.size = s.heap.objs.size + 2 := by rw [Heap.size_push, y1]
  have y3 : (tz3 s.heap a b).objs.size = s.heap.objs.size + 3 := by rw [Heap.size_push, y2]
  have y4 : (tz4 s.heap a b).objs.size = s.heap.objs.size + 4 := by rw [Heap.size_push, y3]
  have p5 : (tz5 s.heap a b).get? (tz4 s.heap a b).objs.size = some _ := Heap.get?_push_size _ rfl
  have p4 : (tz5 s.heap a b).get? (tz3 s.heap a b).objs.size = some _ := Heap.get?_push_of_some _ (Heap.get?_push_size _ rfl)
  have p3 : (tz5 s.heap a b).get? (tz2 s.heap a b).objs.size = some _ := Heap.get?_push_of_some _ (Heap.get?_push_of_some _ (Heap.get?_push_size _ rfl))
  have p2 : (tz5 s.heap a b).get? (tz1 s.heap a).objs.size = some _ := Heap.get?_push_of_some _ (Heap.get?_push_of_some _ (Heap.get?_push_of_some _ (Heap.get?_push_size _ rfl)))
  have p1 : (tz5 s.heap a b).get? s.heap.objs.size = some _ := Heap.get?_push_of_some _ (Heap.get?_push_of_some _ (Heap.get?_push_of_some _ (Heap.get?_push_of_some _ (Heap.get?_push_size _ rfl))))
  rw [y2, y3, y4] at p5
  rw [y3] at p4
  rw [y1, y2] at p3
  rw [y1] at p2
  show _ ∧ _
  rw [y4]
  exact ⟨⟨_, p5, rfl⟩, q _ p5 p3 p4 ⟨_, p1, rfl, rfl⟩ ⟨_, p2, rfl, rfl⟩ fun c o x => Heap.get?_push_of_some _ (Heap.get?_push_of_some _ (Heap.get?_push_of_some _ (Heap.get?_push_of_some _ (Heap.get?_push_of_some _ x))))⟩
end
def Itzt (K : PySem.W.Frag) (a b : Addr) : It :=
  ⟨fun i H => ∃ (xs ys : List V) (x y : V), SqT K H a xs ∧ SqT K H b ys ∧ xs[i]? = some x ∧ ys[i]? = some y,
    fun i H v H' => ∃ T x y, v = .ref T ∧ H T = none ∧ H' = upd H T (.tup [x, y]) ∧ (∀ xs, SqT K H a xs → xs[i]? = some x) ∧ ∀ ys, SqT K H b ys → ys[i]? = some y, fun i H => ∃ xs : List V, SqT K H a xs ∧ xs.length ≤ i⟩
theorem turn_zipT {P : Program} {w : World} {K : PySem.W.Frag} {elts : List Expr} {kk : Nat} {tpos : Pos} {a b z TI TO j1 j2 : Addr} (D : ZipApart z TI TO j1 j2 a b) :
    Turn P w K (.Tuple elts kk tpos) (Itzt K a b) [z, TI, TO, j1, j2] z (fun i h => IsZip h z TI TO .none ∧ IsPair h TI (.ref j1) (.ref j2) ∧ (∃ x y, IsPair h TO x y) ∧ h.IsTupleIter j1 a i ∧ h.IsTupleIter j2 b i) where
  mem := by simp
  obj := by
    rintro i h ⟨hz, hI, ⟨x, y, hO⟩, ⟨o1, e1, _, d1⟩, ⟨o2, e2, _, d2⟩⟩ c hc
    rcases (by simpa using hc : c = z ∨ c = TI ∨ c = TO ∨ c = j1 ∨ c = j2) with rfl | rfl | rfl | rfl | rfl
    · exact ⟨_, hz, nofun⟩
    · exact ⟨_, hI, nofun⟩
    · exact ⟨_, hO, nofun⟩
    · exact ⟨o1, e1, fun v q => by rw [d1] at q; cases q⟩
    · exact ⟨o2, e2, fun v q => by rw [d2] at q; cases q⟩
  keep := by
    rintro i h h' ⟨hz, hI, ⟨x, y, hO⟩, h1, h2⟩ k
    exact ⟨k z (by simp) _ hz, k TI (by simp) _ hI, ⟨x, y, k TO (by simp) _ hO⟩, ti_at h1 fun o q => k j1 (by simp) o q, ti_at h2 fun o q => k j2 (by simp) o q⟩
  item := by
    rintro X rfl rfl rfl hc i pins s σ H E I hf ⟨hz, hI, ⟨x0, y0, hO⟩, h1, h2⟩ ⟨xs, ys, x, y, qx, qy, hx, hy⟩
    obtain ⟨us, rv, p1, _⟩ := I.tuple qx
    obtain ⟨vs, rw', p2, _⟩ := I.tuple qy
    obtain ⟨u, hu, ru⟩ := rv.get hx
    obtain ⟨v, hv, rv2⟩ := rw'.get hy
    have zl : z < s.heap.objs.size := Heap.lt_size hz
    have far : ∀ c, c ∉ [z, TI, TO, j1, j2] → c ≠ z ∧ c ≠ TO ∧ c ≠ j1 ∧ c ≠ j2 := fun c hc => ⟨fun e => hc (by simp [e]), fun e => hc (by simp [e]), fun e => hc (by simp [e]), fun e => hc (by simp [e])⟩
    refine pnz_item D hz hI hO h1 h2 (show s.heap.IsTuple a us.toArray from p1) (show s.heap.IsTuple b vs.toArray from p2) (x := u) (y := v) (by simpa using hu) (by simpa using hv) fun h' z' O' n1 n2 hT hsz hk => ?_
    refine ⟨_, rfl, wpAny_letOwnedTupleGo_zip (s := { s with heap := h' }) z' fun g zg sb => ?_⟩
    have hT2 : g.get? s.heap.objs.size = some { cls := .type "tuple", data := .seq #[u, v] } := (sb.2 _ (Nat.ne_of_gt zl)).trans hT
    have I1 : Inv X pins σ (upd H s.heap.objs.size (.tup [x, y])) { s with heap := g } :=
      I.turnedNew (t' := s.toks) (ch := [z, TI, TO, j1, j2]) (fun c o hb q => (sb.2 c (far c hb).1).trans (hk c o (far c hb).1 (far c hb).2.1 (far c hb).2.2.1 (far c hb).2.2.2 q)) hf (Nat.le_refl _)
        (show ObjOk X.prog X.w _ g _ (.tup [x, y]) from ⟨by show 2 ≤ sizeLine; decide, [u, v], .cons ru (.cons rv2 .nil), _, hT2, rfl, _, rfl⟩)
    refine ⟨.ref s.heap.objs.size, _, I1, rfl, ⟨_, x, y, rfl, I.hok.fresh (Nat.le_refl _), rfl, fun l hl => by rw [I.tuple_inj hl qx]; exact hx, fun l hl => by rw [I.tuple_inj hl qy]; exact hy⟩,
      ⟨zg, (sb.2 _ D.TIz).trans (hk _ _ D.TIz D.TITO D.TIi1 D.TIi2 hI), ⟨u, v, (sb.2 _ D.TOz).trans O'⟩, ti_at n1 fun o q => (sb.2 _ D.i1z).trans q, ti_at n2 fun o q => (sb.2 _ D.i2z).trans q⟩, fun c hcm => ?_⟩
    have hlt : c < s.heap.objs.size := by
      obtain ⟨o1, e1, _⟩ := h1
      obtain ⟨o2, e2, _⟩ := h2
      rcases (by simpa using hcm : c = z ∨ c = TI ∨ c = TO ∨ c = j1 ∨ c = j2) with rfl | rfl | rfl | rfl | rfl
      · exact zl
      · exact Heap.lt_size hI
      · exact Heap.lt_size hO
      · exact Heap.lt_size e1
      · exact Heap.lt_size e2
    rw [upd_ne (Nat.ne_of_lt hlt)]
    exact (hf c hcm).1
  done := by
    rintro X rfl rfl rfl hc i pins s σ H E I hf ⟨hz, hI, ⟨x0, y0, hO⟩, h1, h2⟩ ⟨xs, qx, hend⟩
    obtain ⟨us, rv, p1, _⟩ := I.tuple qx
    have l1 := rv.length
    have far : ∀ c, c ∉ [z, TI, TO, j1, j2] → c ≠ z ∧ c ≠ TO ∧ c ≠ j1 ∧ c ≠ j2 := fun c hc => ⟨fun e => hc (by simp [e]), fun e => hc (by simp [e]), fun e => hc (by simp [e]), fun e => hc (by simp [e])⟩
    exact pnz_end (t2 := b) (I.ok.hd hc) D hz hI hO h1 (show s.heap.IsTuple a us.toArray from p1) (by simp; omega) fun h' hk =>
      ⟨rfl, I.turnedL (t' := s.toks) (ch := [z, TI, TO, j1, j2]) (fun c o hb q => hk c o (far c hb).1 (far c hb).2.1 (far c hb).2.2.1 (far c hb).2.2.2 q) hf⟩
  self := fun A i s Q E st h => wpAny_pyIter_zip st.1 h
def iZipA (K : PySem.W.Frag) (ta : TA) : TI := fun σ H R => ta σ H fun vs H1 => ∃ a b xs ys, vs = [.ref a, .ref b] ∧ ((SqL K H1 a xs ∧ SqL K H1 b ys ∧ R (Itz K a b) H1) ∨ (SqT K H1 a xs ∧ SqT K H1 b ys ∧ R (Itzt K a b) H1))
theorem pi_zipA {X : Cx} {e e2 : Expr} {ta : TA} {p pos tpos : Pos} {elts : List Expr} {kk : Nat} (hg : Gl X "zip") (hm : X.mg "zip" = none) (ha : PA X [e, e2] ta)
    (hs : starEach [e, e2] X.env = (false, eval e X.env) :: starEach [e2] X.env := by rfl) (hpl : (backTo pos (starEach [e2] X.env)).any (·.1) = false := by rfl) :
    PI X (.Tuple elts kk tpos) (.Call (.Name "zip" p) [e, e2] [] pos) (iZipA X.K ta) := by
  intro pins s σ H R I h
  refine Call_ (ld_blt I hg hm boot_zip5 (PyProof.Rows.callWith_type1 (thn (ha pos pins s σ H _ I h) fun us s1 ⟨vs, H1, I1, r1, q1⟩ => ?_) hs hpl))
  obtain ⟨a, b, xs, ys, rfl, q1⟩ := q1
  cases r1 with
  | cons r rr =>
    cases rr with
    | cons r' rr =>
      cases rr
      cases r
      cases r'
      have fp : ∀ c ∈ [s1.heap.objs.size + 4, s1.heap.objs.size + 2, s1.heap.objs.size + 3, s1.heap.objs.size, s1.heap.objs.size + 1], FpOk X pins H1 c := fun c hcm => by
        have hle : s1.heap.objs.size ≤ c := by
          rcases (by simpa using hcm : c = s1.heap.objs.size + 4 ∨ c = s1.heap.objs.size + 2 ∨ c = s1.heap.objs.size + 3 ∨ c = s1.heap.objs.size ∨ c = s1.heap.objs.size + 1) with rfl | rfl | rfl | rfl | rfl <;> first | exact Nat.le_refl _ | exact Nat.le_add_right _ _
        exact I1.fpOk hle (I1.hok.fresh hle)
      rcases q1 with ⟨qx, qy, q⟩ | ⟨qx, qy, q⟩
      · obtain ⟨us, rv, p1, _⟩ := I1.list qx
        obtain ⟨ws, rv2, p2, _⟩ := I1.list qy
        refine call_zip_2 p1.isList p2.isList fun h' hz hI hO n1 n2 _ hk => wpAny_pyIter_zip hz ?_
        exact ⟨_, _, _, _, H1, rfl, I1.kept (t' := s1.toks) hk, turn_zip (PySem.W.ktu_apart s1.heap.objs.size a b p1.lt p2.lt), ⟨hz, hI, ⟨_, _, hO⟩, n1, n2⟩, fp, q⟩
      · obtain ⟨us, rv, p1, _⟩ := I1.tuple qx
        obtain ⟨ws, rv2, p2, _⟩ := I1.tuple qy
        have la : a < s1.heap.objs.size := by obtain ⟨o, e, _⟩ := p1; exact Heap.lt_size e
        have lb : b < s1.heap.objs.size := by obtain ⟨o, e, _⟩ := p2; exact Heap.lt_size e
        refine call_zip_tup (show s1.heap.IsTuple a us.toArray from p1) (show s1.heap.IsTuple b ws.toArray from p2) fun h' hz hI hO n1 n2 hk => wpAny_pyIter_zip hz ?_
        exact ⟨_, _, _, _, H1, rfl, I1.kept (t' := s1.toks) hk, turn_zipT (PySem.W.ktu_apart s1.heap.objs.size a b la lb), ⟨hz, hI, ⟨_, _, hO⟩, n1, n2⟩, fp, q⟩
section
variable {X : Cx}
theorem Answers.no_none {T : String} (hne : (Value.type "NoneType" == Value.type T) = false) (hty : typeOf (.type T) = pure (.type "type")) (hsub : isSubtype (.type "NoneType") (.type T) = pure false) : Answers (fun s => s.TypeIs .none "NoneType") .none (.type T) false :=
  fun _ _ _ _ _ _ s hs => by
    obtain ⟨h, g, d, t, os⟩ := s
    exact isinstance_nested_false_none hne hty hsub (hs.2 (t + 1))
theorem isi_lt {s : Shared} {u : Value} {x : V} {H : Hp} {pins : List (Addr × Obj)} {σ : St} (I : Inv X pins σ H s) (r : RelV x u) {Tx : String} (hx : tyOf X.K H x Tx) :
    s.TypeIs u Tx ∧ AnswersAll (fun s => s.TypeIs u Tx) u [.type "list", .type "tuple"] [Tx == "list", Tx == "tuple"] := by
  cases x with
  | int i =>
    obtain ⟨t, rfl⟩ := r
    have e : Tx = "int" := hx
    subst e
    exact ⟨typeIs_int _ _ _, Answers.of_false_int (by decide) F.isi_meta_list (by rw [isSubtype_type]; kernel_rfl), Answers.of_false_int (by decide) F.isi_meta_tuple (by rw [isSubtype_type]; kernel_rfl), trivial⟩
  | bl b =>
    cases r
    have e : Tx = "bool" := hx
    subst e
    exact ⟨by first | exact typeIs_bool _ _ | exact rfl, Answers.of_false_bool (by decide) F.isi_meta_list (by rw [isSubtype_type]; kernel_rfl), Answers.of_false_bool (by decide) F.isi_meta_tuple (by rw [isSubtype_type]; kernel_rfl), trivial⟩
  | str z =>
    obtain ⟨t, rfl⟩ := r
    have e : Tx = "str" := hx
    subst e
    exact ⟨typeIs_str _ _ _, Answers.of_false_str (by decide) F.isi_meta_list (by rw [isSubtype_type]; kernel_rfl), Answers.of_false_str (by decide) F.isi_meta_tuple (by rw [isSubtype_type]; kernel_rfl), trivial⟩
  | non =>
    cases r
    have e : Tx = "NoneType" := hx
    subst e
    exact ⟨rfl, Answers.no_none (by decide) F.isi_meta_list (by rw [isSubtype_type]; kernel_rfl), Answers.no_none (by decide) F.isi_meta_tuple (by rw [isSubtype_type]; kernel_rfl), trivial⟩
  | ref a =>
    cases r
    rcases hx with ⟨⟨xs, hx⟩, rfl⟩ | ⟨⟨xs, hx⟩, rfl⟩
    · obtain ⟨its, _, ⟨o, n, ho, hc, hdn, hd⟩, _⟩ := I.list hx
      exact ⟨⟨o, ho, hc⟩, Answers.of_true F.isi_meta_list F.isi_self_list, Answers.of_false_list (by decide) F.isi_meta_tuple (by rw [isSubtype_type]; kernel_rfl), trivial⟩
    · obtain ⟨its, _, ⟨o, ho, hc, n, hd⟩, _⟩ := I.tuple hx
      exact ⟨⟨o, ho, hc⟩, Answers.of_false_tuple (by decide) F.isi_meta_list (by rw [isSubtype_type]; kernel_rfl), Answers.of_true F.isi_meta_tuple F.isi_self_tuple, trivial⟩
  | _ => exact absurd hx (by intro z; exact z)
def tIsiT (K : PySem.W.Frag) (te : TE) : TE := fun σ H Q => te σ H fun x H1 => ∃ Tx, tyOf K H1 x Tx ∧ Q (.bl (Tx == "list" || Tx == "tuple")) H1
end
end L2
set_option Elab.async false
set_option linter.all false
set_option maxRecDepth 100000
set_option maxHeartbeats 400000
namespace L2
open PySem PySem.Spec PyProof.Rows
section
open PySem.SeqAt
open PySem.AutoSeq1 (wpAny_loadPart')
open PySem.MeetsSeq PySem.MeetsSeq2 PySem.MeetsSeq3
theorem list_add_any (l b : Addr) (xs ys : Array Value) (n m : Nat) (sl sl2 : Array (Option Value)) (hz : xs.size + ys.size ≤ sizeLine) :
    Meets (Builtin.«list.__add__» ⟨[.ref l, .ref b], []⟩) (fun _ R s => s.heap.get? l = some { cls := .type "list", dict := none, data := .seq xs n, slots := sl } ∧ s.heap.get? b = some { cls := .type "list", dict := none, data := .seq ys m, slots := sl2 } ∧
      R (.ok (.ret (Value.ref s.heap.objs.size))) { s with heap := s.heap.push { cls := Value.type "list", data := Data.seq (xs ++ ys) } }) :=
  .of_wp fun prog w A R s h => by
    obtain ⟨hp, g, d, tk, os⟩ := s
    obtain ⟨hl, hb, h⟩ := h
    have f1 := AutoSeq1.idx_int; have f2 := AutoSeq1.sub_tuple_tuple; have f3 := AutoSeq1.sub_list_list; have f4 := AutoSeq1.sub_tuple_list; have f5 := AutoSeq1.sub_list_tuple
    wp_walk using wpAny_loadPart' hl, wpAny_loadPart' hb
    exact ⟨_, rfl, h⟩
theorem list_extend_any (l b : Addr) (xs ys : Array Value) (n m : Nat) (sl2 : Array (Option Value)) (hc : ¬(!xs.isEmpty && Builtin.List.listTooLong (xs.size + ys.size)) = true) (h1 : xs.size ≤ sizeLine) (h2 : xs.size + ys.size ≤ sizeLine + 1) :
    Meets (Builtin.«list.extend» ⟨[.ref l, .ref b], []⟩) (fun _ R s => s.heap.get? l = some { cls := .type "list", dict := none, data := .seq xs n, slots := #[] } ∧ s.heap.get? b = some { cls := .type "list", dict := none, data := .seq ys m, slots := sl2 } ∧
      R (.ok (.ret Value.none)) { s with heap := s.heap.update l (Obj.mapSeq fun x => x ++ ys) }) :=
  .of_wp fun prog w A R s h => by
    obtain ⟨hp, g, d, tk, os⟩ := s
    obtain ⟨hl, hb, h⟩ := h
    have f1 := AutoSeq1.idx_int; have f2 := AutoSeq1.sub_tuple_tuple; have f3 := AutoSeq1.sub_list_list; have f4 := AutoSeq1.sub_tuple_list; have f5 := AutoSeq1.sub_list_tuple
    have hz' : (xs ++ ys).size ≤ sizeLine + 1 := by rw [Array.size_append]; exact h2
    wp_walk using (wpAny_updateSeq hl rfl (hz := h1) (_hz' := hz')), wpAny_loadPart' hl, wpAny_loadPart' hb
    exact ⟨_, rfl, h⟩
end
section
variable {X : Cx}
def rExtendS (K : PySem.W.Frag) : V → List V → Hp → VK → Prop := fun x vs H Q => ∃ l b xs zs, x = .ref l ∧ vs = [.ref b] ∧ H l = some (.lst xs) ∧ SqL K H b zs ∧ xs.length + zs.length ≤ sizeLine ∧ Q .non (upd H l (.lst (xs ++ zs)))
theorem mt_extendS : MtM X "list.extend" (rExtendS X.K) := by
  intro pins s σ H x vs v us Q I rx rv h
  obtain ⟨l, b, xs, zs, rfl, rfl, hH, hB, hz, q⟩ := h
  cases rx
  obtain ⟨u, rfl, ru⟩ := rv.one
  cases ru
  obtain ⟨z, its, n, r, hl, e⟩ := I.lstM hH
  obtain ⟨its2, r2, ⟨⟨cls2, dd2, data2, sl2⟩, n2, e2, hc2, hdn2, hd2⟩, z2⟩ := I.list hB
  simp only at hc2 hdn2 hd2
  subst hc2 hdn2 hd2
  have hl2 := r2.length
  have hsz : its.toArray.size + its2.toArray.size ≤ sizeLine := by rw [List.size_toArray, List.size_toArray]; omega
  have hlong : ¬ (!its.toArray.isEmpty && Builtin.List.listTooLong (its.toArray.size + its2.toArray.size)) = true := by
    rw [notLongL hsz, Bool.and_false]
    exact Bool.false_ne_true
  refine call_meets PySem.F.slot_list_extend ⟨_, e, rfl⟩ PySem.F.entry_list_extend (PySem.F.args_list_extend_2 _ _) (list_extend_any l b its.toArray its2.toArray n n2 sl2 hlong (by rw [List.size_toArray]; omega) (by omega)) ⟨e, e2, ?_⟩
  exact ⟨.non, _, I.lset (its' := its ++ its2) hH e (by simp) (r.append r2) (by rw [List.length_append]; omega), rfl, q⟩
def rCatS (K : PySem.W.Frag) : R2 := fun x y H Q => ∃ l b xs zs, x = .ref l ∧ y = .ref b ∧ SqL K H l xs ∧ SqL K H b zs ∧ xs.length + zs.length ≤ sizeLine ∧ ∀ p, H p = none → Q (.ref p) (upd H p (.lst (xs ++ zs)))
theorem op_catS : OpR X (binaryOp .Add) (rCatS X.K) := by
  intro pins s σ H x y v u Q I rx ry h
  obtain ⟨l, b, xs, zs, rfl, rfl, hH, hB, hz, q⟩ := h
  cases rx
  cases ry
  obtain ⟨its, r, ⟨⟨cls, dd, data, sl⟩, n, e, hc, hdn, hd⟩, z⟩ := I.list hH
  obtain ⟨its2, r2, ⟨⟨cls2, dd2, data2, sl2⟩, n2, e2, hc2, hdn2, hd2⟩, z2⟩ := I.list hB
  simp only at hc hdn hd hc2 hdn2 hd2
  subst hc hdn hd hc2 hdn2 hd2
  have l1 := r.length
  have l2 := r2.length
  refine PySem.concat_meets ⟨_, e, rfl⟩ ⟨_, e2, rfl⟩ PySem.noFill_list_add PySem.seq_list_add PySem.F.slot_list_add PySem.F.entry_list_add (PySem.F.args_list_add_2 _ _) (list_add_any l b its.toArray its2.toArray n n2 sl sl2 (by rw [List.size_toArray, List.size_toArray]; omega)) ⟨e, e2, ?_⟩
  have ea : its.toArray ++ its2.toArray = (its ++ its2).toArray := by simp
  rw [ea]
  exact ⟨.ref _, _, I.lnew (t' := s.toks) (r.append r2) (by rw [List.length_append]; omega), rfl, q _ I.fresh⟩
end
end L2
set_option Elab.async false
set_option linter.all false
set_option maxRecDepth 100000
set_option maxHeartbeats 400000
namespace DL
open PySem L2
def e0 : Hp := fun _ => none
def J (H Hs Hq Hr : Hp) : Prop := ∀ a, (H a = Hs a ∧ Hq a = none ∧ Hr a = none) ∨ (H a = Hq a ∧ Hs a = none ∧ Hr a = none) ∨ (H a = Hr a ∧ Hs a = none ∧ Hq a = none)
def plus (A B : Hp) : Hp := fun a => match A a with | some o => some o | none => B a
def Apart (A B : Hp) : Prop := ∀ a, A a = none ∨ B a = none
theorem plus_l {A B : Hp} {a : Addr} {o : HO} (h : A a = some o) : plus A B a = some o := by unfold plus; rw [h]
theorem plus_r {A B : Hp} {a : Addr} (h : A a = none) : plus A B a = B a := by unfold plus; rw [h]
section
variable {H Hs Hq Hr : Hp} {p : Addr} {o : HO}
theorem J.vis (j : J H Hs Hq Hr) : Same Hs H := fun b u e => by
  rcases j b with ⟨h, _, _⟩ | ⟨_, h, _⟩ | ⟨_, h, _⟩
  · rw [h]; exact e
  · rw [h] at e; cases e
  · rw [h] at e; cases e
theorem J.visq (j : J H Hs Hq Hr) : Same Hq H := fun b u e => by
  rcases j b with ⟨_, h, _⟩ | ⟨h, _, _⟩ | ⟨_, _, h⟩
  · rw [h] at e; cases e
  · rw [h]; exact e
  · rw [h] at e; cases e
theorem J.visr (j : J H Hs Hq Hr) : Same Hr H := fun b u e => by
  rcases j b with ⟨_, _, h⟩ | ⟨_, _, h⟩ | ⟨h, _, _⟩
  · rw [h] at e; cases e
  · rw [h] at e; cases e
  · rw [h]; exact e
theorem J.new (j : J H Hs Hq Hr) (h : H p = none) : Hs p = none ∧ Hq p = none ∧ Hr p = none := by
  rcases j p with ⟨e, h1, h2⟩ | ⟨e, h1, h2⟩ | ⟨e, h1, h2⟩
  · exact ⟨e ▸ h, h1, h2⟩
  · exact ⟨h1, e ▸ h, h2⟩
  · exact ⟨h1, h2, e ▸ h⟩
theorem J.alloc (j : J H Hs Hq Hr) (h : H p = none) : J (upd H p o) (upd Hs p o) Hq Hr := fun a => by
  obtain ⟨_, h2, h3⟩ := j.new h
  by_cases e : a = p
  · subst e
    exact .inl ⟨by rw [upd_same, upd_same], h2, h3⟩
  · rw [upd_ne e, upd_ne e]; exact j a
theorem J.allocr (j : J H Hs Hq Hr) (h : H p = none) : J (upd H p o) Hs Hq (upd Hr p o) := fun a => by
  obtain ⟨h1, h2, _⟩ := j.new h
  by_cases e : a = p
  · subst e
    exact .inr (.inr ⟨by rw [upd_same, upd_same], h1, h2⟩)
  · rw [upd_ne e, upd_ne e]; exact j a
theorem J.putr {u : HO} (j : J H Hs Hq Hr) (h : Hr p = some u) : J (upd H p o) Hs Hq (upd Hr p o) := fun a => by
  by_cases e : a = p
  · subst e
    rcases j a with ⟨_, _, h2⟩ | ⟨_, _, h2⟩ | ⟨_, h1, h2⟩
    · rw [h] at h2; cases h2
    · rw [h] at h2; cases h2
    · exact .inr (.inr ⟨by rw [upd_same, upd_same], h1, h2⟩)
  · rw [upd_ne e, upd_ne e]; exact j a
theorem J.sq (j : J H Hs Hq Hr) : Apart Hs Hq := fun a => by
  rcases j a with ⟨_, h, _⟩ | ⟨_, h, _⟩ | ⟨_, h, _⟩
  · exact .inr h
  · exact .inl h
  · exact .inl h
theorem J.sr (j : J H Hs Hq Hr) : Apart Hs Hr := fun a => by
  rcases j a with ⟨_, _, h⟩ | ⟨_, h, _⟩ | ⟨_, h, _⟩
  · exact .inr h
  · exact .inl h
  · exact .inl h
theorem J.qr (j : J H Hs Hq Hr) : Apart Hq Hr := fun a => by
  rcases j a with ⟨_, h, _⟩ | ⟨_, _, h⟩ | ⟨_, _, h⟩
  · exact .inl h
  · exact .inr h
  · exact .inl h
theorem J.hide (j : J H Hs Hq Hr) : J H Hs e0 (plus Hq Hr) := fun a => by
  rcases j a with ⟨h, h1, h2⟩ | ⟨h, h1, h2⟩ | ⟨h, h1, h2⟩
  · exact .inl ⟨h, rfl, by rw [plus_r h1]; exact h2⟩
  · refine .inr (.inr ⟨?_, h1, rfl⟩)
    cases e : Hq a with
    | none => rw [plus_r e, h2, h, e]
    | some o => rw [plus_l e, h, e]
  · exact .inr (.inr ⟨by rw [plus_r h2]; exact h, h1, rfl⟩)
theorem J.unhide (ap : Apart Hq Hr) (j : J H Hs e0 (plus Hq Hr)) : J H Hs Hq Hr := fun a => by
  rcases j a with ⟨h, _, h2⟩ | ⟨h, h1, h2⟩ | ⟨h, h1, _⟩
  · cases e : Hq a with
    | none => rw [plus_r e] at h2; exact .inl ⟨h, rfl, h2⟩
    | some o => rw [plus_l e] at h2; cases h2
  · cases e : Hq a with
    | none => rw [plus_r e] at h2; exact .inl ⟨h.trans h1.symm, rfl, h2⟩
    | some o => rw [plus_l e] at h2; cases h2
  · cases e : Hq a with
    | none => rw [plus_r e] at h; exact .inr (.inr ⟨h, h1, rfl⟩)
    | some o =>
      rw [plus_l e] at h
      rcases ap a with z | z
      · rw [e] at z; cases z
      · exact .inr (.inl ⟨h, h1, z⟩)
theorem J.show {Ho : Hp} (ap : Apart Ho Hr) (j : J H Hs Hq (plus Ho Hr)) : J H (plus Hs Ho) Hq Hr := fun a => by
  rcases j a with ⟨h, h1, h2⟩ | ⟨h, h1, h2⟩ | ⟨h, h1, h2⟩
  · cases e : Ho a with
    | none =>
      rw [plus_r e] at h2
      refine .inl ⟨?_, h1, h2⟩
      cases e' : Hs a with
      | none => rw [plus_r e', e, h, e']
      | some o => rw [plus_l e', h, e']
    | some o => rw [plus_l e] at h2; cases h2
  · cases e : Ho a with
    | none => rw [plus_r e] at h2; exact .inr (.inl ⟨h, by rw [plus_r h1]; exact e, h2⟩)
    | some o => rw [plus_l e] at h2; cases h2
  · cases e : Ho a with
    | none => rw [plus_r e] at h; exact .inr (.inr ⟨h, by rw [plus_r h1]; exact e, h2⟩)
    | some o =>
      rw [plus_l e] at h
      rcases ap a with z | z
      · rw [e] at z; cases z
      · exact .inl ⟨by rw [plus_r h1, h, e], h2, z⟩
end
theorem Same.plusl (A B : Hp) : Same A (plus A B) := fun _ _ e => plus_l e
theorem Same.new {H : Hp} {p : Addr} {o : HO} (h : H p = none) : Same H (upd H p o) := fun b u q => by rw [upd_ne (ne_of_none q h)]; exact q
theorem Same.tup' {K : PySem.W.Frag} {H H' : Hp} {a : Addr} {xs : List V} (e : Same H H') (h : SqT K H a xs) : SqT K H' a xs := by
  rcases h with (h | ⟨o, h⟩) | h
  · exact .inl (.inl (e _ _ h))
  · exact .inl (.inr ⟨o, e _ _ h⟩)
  · exact .inr h
theorem Same.lst' {K : PySem.W.Frag} {H H' : Hp} {a : Addr} {xs : List V} (e : Same H H') (h : SqL K H a xs) : SqL K H' a xs := by
  rcases h with (h | ⟨o, h⟩) | h
  · exact .inl (.inl (e _ _ h))
  · exact .inl (.inr ⟨o, e _ _ h⟩)
  · exact .inr h
mutual
inductive Dv (K : PySem.W.Frag) (H : Hp) : V → PyData → Prop
  | non : Dv K H .non .none
  | bl (b : Bool) : Dv K H (.bl b) (.bool b)
  | int (i : Int) : Dv K H (.int i) (.int i)
  | str (x : Str) : Dv K H (.str x) (.str x)
  | lst {a : Addr} {xs : List V} {ds : List PyData} : SqL K H a xs → xs.length ≤ sizeLine → DvAll K H xs ds → Dv K H (.ref a) (.list ds)
  | tup {a : Addr} {xs : List V} {ds : List PyData} : SqT K H a xs → xs.length ≤ sizeLine → DvAll K H xs ds → Dv K H (.ref a) (.tuple ds)
inductive DvAll (K : PySem.W.Frag) (H : Hp) : List V → List PyData → Prop
  | nil : DvAll K H [] []
  | cons {v : V} {vs : List V} {d : PyData} {ds : List PyData} : Dv K H v d → DvAll K H vs ds → DvAll K H (v :: vs) (d :: ds)
end
section
variable {K : PySem.W.Frag} {H H' : Hp}
mutual
theorem Dv.mono (s : Same H H') : ∀ {v : V} (d : PyData), Dv K H v d → Dv K H' v d
  | _, .none, h => by cases h; exact .non
  | _, .bool _, h => by cases h; exact .bl _
  | _, .int _, h => by cases h; exact .int _
  | _, .str _, h => by cases h; exact .str _
  | _, .list ds, h => by cases h with | lst a z q => exact .lst (Same.lst' s a) z (DvAll.mono s ds q)
  | _, .tuple ds, h => by cases h with | tup a z q => exact .tup (Same.tup' s a) z (DvAll.mono s ds q)
  | _, .dict _, h => by cases h
theorem DvAll.mono (s : Same H H') : ∀ {vs : List V} (ds : List PyData), DvAll K H vs ds → DvAll K H' vs ds
  | _, [], h => by cases h; exact .nil
  | _, d :: ds, h => by cases h with | cons a b => exact .cons (Dv.mono s d a) (DvAll.mono s ds b)
end
mutual
theorem Dv.dp : ∀ {v : V} (d : PyData), Dv K H v d → Dp K H v d
  | _, .none, h => by cases h; exact .non
  | _, .bool _, h => by cases h; exact .bl _
  | _, .int _, h => by cases h; exact .int _
  | _, .str _, h => by cases h; exact .str _
  | _, .list ds, h => by cases h with | lst a z q => exact .lst a (DvAll.dp ds q)
  | _, .tuple ds, h => by cases h with | tup a z q => exact .tup a (DvAll.dp ds q)
  | _, .dict _, h => by cases h
theorem DvAll.dp : ∀ {vs : List V} (ds : List PyData), DvAll K H vs ds → DpAll K H vs ds
  | _, [], h => by cases h; exact .nil
  | _, d :: ds, h => by cases h with | cons a b => exact .cons (Dv.dp d a) (DvAll.dp ds b)
end
theorem DvAll.length : ∀ {vs : List V} {ds : List PyData}, DvAll K H vs ds → vs.length = ds.length
  | _, _, .nil => rfl
  | _, _, .cons _ t => congrArg (· + 1) (DvAll.length t)
theorem DvAll.get : ∀ {vs : List V} {ds : List PyData} {i : Nat} {v : V}, DvAll K H vs ds → vs[i]? = some v → ∃ d, ds[i]? = some d ∧ Dv K H v d
  | _, _, _, _, .nil, e => by simp at e
  | _, _, 0, _, .cons r _, e => by simp at e; subst e; exact ⟨_, rfl, r⟩
  | _, _, i + 1, v, .cons _ t, e => by
    obtain ⟨d, h1, h2⟩ := DvAll.get (i := i) (v := v) t (by simpa using e)
    exact ⟨d, by simpa using h1, h2⟩
theorem DvAll.getD' : ∀ {vs : List V} {ds : List PyData} {i : Nat} {d : PyData}, DvAll K H vs ds → ds[i]? = some d → ∃ v, vs[i]? = some v ∧ Dv K H v d
  | _, _, _, _, .nil, e => by simp at e
  | _, _, 0, _, .cons r _, e => by simp at e; subst e; exact ⟨_, rfl, r⟩
  | _, _, i + 1, v, .cons _ t, e => by
    obtain ⟨d, h1, h2⟩ := DvAll.getD' (i := i) (d := v) t (by simpa using e)
    exact ⟨d, by simpa using h1, h2⟩
theorem DvAll.append : ∀ {vs us : List V} {ds es : List PyData}, DvAll K H vs ds → DvAll K H us es → DvAll K H (vs ++ us) (ds ++ es)
  | _, _, _, _, .nil, h => h
  | _, _, _, _, .cons a b, h => .cons a (DvAll.append b h)
theorem DvAll.drop : ∀ {vs : List V} {ds : List PyData} (n : Nat), DvAll K H vs ds → DvAll K H (vs.drop n) (ds.drop n)
  | _, _, 0, h => h
  | _, _, _ + 1, .nil => .nil
  | _, _, n + 1, .cons _ t => DvAll.drop n t
theorem DvAll.take : ∀ {vs : List V} {ds : List PyData} (n : Nat), DvAll K H vs ds → DvAll K H (vs.take n) (ds.take n)
  | _, _, 0, _ => .nil
  | _, _, _ + 1, .nil => .nil
  | _, _, n + 1, .cons r t => .cons r (DvAll.take n t)
end
structure Wd where
  K : PySem.W.Frag
  d : Addr
  Pot : Hp → Prop
def kD : Key → PyData
  | .inl i => .int i
  | .inr x => .str x
inductive KAll (K : PySem.W.Frag) (H : Hp) : List (Key × V) → List (PyData × PyData) → Prop
  | nil : KAll K H [] []
  | cons {k : Key} {v : V} {kvs : List (Key × V)} {d : PyData} {es : List (PyData × PyData)} : Dv K H v d → KAll K H kvs es → KAll K H ((k, v) :: kvs) ((kD k, d) :: es)
theorem KAll.mono {K : PySem.W.Frag} {H H' : Hp} (s : Same H H') : ∀ {kvs : List (Key × V)} {es : List (PyData × PyData)}, KAll K H kvs es → KAll K H' kvs es
  | _, _, .nil => .nil
  | _, _, .cons a b => .cons (Dv.mono s _ a) (KAll.mono s b)
def DctR (K : PySem.W.Frag) (H : Hp) (v : V) (es : List (PyData × PyData)) : Prop := ∃ a o kvs, v = .ref a ∧ H a = some (.frz o (.dK kvs)) ∧ KAll K H kvs es
theorem DctR.mono {K : PySem.W.Frag} {H H' : Hp} (s : Same H H') {v : V} {es : List (PyData × PyData)} (h : DctR K H v es) : DctR K H' v es :=
  let ⟨a, o, kvs, e, h1, h2⟩ := h; ⟨a, o, kvs, e, s _ _ h1, h2.mono s⟩
def CRel (W : Wd) (H : Hp) (v : V) : PyData → Prop
  | .dict [] => v = .ref W.d
  | .dict (_ :: es) => DctR W.K H v es
  | x => Dv W.K H v x
theorem CRel.of {W : Wd} {H : Hp} {v : V} {x : PyData} (h : Dv W.K H v x) : CRel W H v x := by
  cases x <;> first | exact h | (cases h)
theorem CRel.mono {W : Wd} {H H' : Hp} (s : Same H H') {v : V} {x : PyData} (h : CRel W H v x) : CRel W H' v x := by
  cases x with
  | dict es =>
    cases es with
    | nil => exact h
    | cons e es => exact DctR.mono s h
  | _ => exact Dv.mono s _ h
def noPot : PyData → Bool
  | .dict _ => false
  | _ => true
theorem CRel.dv {W : Wd} {H : Hp} {v : V} {x : PyData} (h : CRel W H v x) (n : noPot x = true) : Dv W.K H v x := by
  cases x <;> first | exact h | (cases n)
inductive Cell where
  | dat (d : PyData)
  | own (ds : List PyData)
abbrev Env := List (Option Cell)
abbrev Pp (α : Type) := (α → Prop) → Prop
def datO : Option (Option Cell) → Option PyData
  | some (some (.dat d)) => some d
  | _ => none
def datAt (ρ : Env) (i : Nat) : Option PyData := datO ρ[i]?
structure ER (W : Wd) (H : Hp) (σ : St) (ρ : Env) : Prop where
  len : ρ.length ≤ σ.length
  get : ∀ (i : Nat) (d : PyData), datAt ρ i = some d → ∃ v, σ[i]? = some (some v) ∧ CRel W H v d
theorem ER.mono {W : Wd} {H H' : Hp} {σ : St} {ρ : Env} (s : Same H H') (h : ER W H σ ρ) : ER W H' σ ρ := ⟨h.len, fun i d e => let ⟨v, h1, h2⟩ := h.get i d e; ⟨v, h1, h2.mono s⟩⟩
def G (W : Wd) (Hr H Hs : Hp) : Prop := ∃ Hq, J H Hs Hq Hr ∧ W.Pot Hq
section
variable {W : Wd} {Hr H Hs : Hp} {p : Addr} {o : HO}
theorem G.vis (g : G W Hr H Hs) : Same Hs H := let ⟨_, j, _⟩ := g; j.vis
theorem G.new (g : G W Hr H Hs) (h : H p = none) : Hs p = none := let ⟨_, j, _⟩ := g; (j.new h).1
theorem G.newr (g : G W Hr H Hs) (h : H p = none) : Hr p = none := let ⟨_, j, _⟩ := g; (j.new h).2.2
theorem G.alloc (g : G W Hr H Hs) (h : H p = none) : G W Hr (upd H p o) (upd Hs p o) := let ⟨q, j, z⟩ := g; ⟨q, j.alloc h, z⟩
theorem G.allocr (g : G W Hr H Hs) (h : H p = none) : G W (upd Hr p o) (upd H p o) Hs := let ⟨q, j, z⟩ := g; ⟨q, j.allocr h, z⟩
end
def RE (W : Wd) (t : TE) (f : Env → Pp PyData) : Prop := ∀ σ H Hs Hr ρ (Q : VK) (Q0 : PyData → Prop), G W Hr H Hs → ER W Hs σ ρ → f ρ Q0 →
  (∀ d v H' Hs', Q0 d → G W Hr H' Hs' → Same Hs Hs' → CRel W Hs' v d → Q v H') → t σ H Q
def RT (W : Wd) (t : TT) (f : Env → Pp Bool) : Prop := ∀ σ H Hs Hr ρ (Q : Bool → Hp → Prop) (Q0 : Bool → Prop), G W Hr H Hs → ER W Hs σ ρ → f ρ Q0 →
  (∀ b H' Hs', Q0 b → G W Hr H' Hs' → Same Hs Hs' → Q b H') → t σ H Q
inductive CAll (W : Wd) (H : Hp) : List V → List PyData → Prop
  | nil : CAll W H [] []
  | cons {v : V} {vs : List V} {d : PyData} {ds : List PyData} : CRel W H v d → CAll W H vs ds → CAll W H (v :: vs) (d :: ds)
theorem CAll.mono {W : Wd} {H H' : Hp} (s : Same H H') : ∀ {vs : List V} {ds : List PyData}, CAll W H vs ds → CAll W H' vs ds
  | _, _, .nil => .nil
  | _, _, .cons a b => .cons (a.mono s) (CAll.mono s b)
theorem CAll.length {W : Wd} {H : Hp} : ∀ {vs : List V} {ds : List PyData}, CAll W H vs ds → vs.length = ds.length
  | _, _, .nil => rfl
  | _, _, .cons _ t => congrArg (· + 1) (CAll.length t)
theorem CAll.dv {W : Wd} {H : Hp} : ∀ {vs : List V} {ds : List PyData}, CAll W H vs ds → ds.all noPot = true → DvAll W.K H vs ds
  | _, _, .nil, _ => .nil
  | _, _, .cons a b, n => by
    rw [List.all_cons, Bool.and_eq_true] at n
    exact .cons (a.dv n.1) (CAll.dv b n.2)
theorem CAll.of {W : Wd} {H : Hp} : ∀ {vs : List V} {ds : List PyData}, DvAll W.K H vs ds → CAll W H vs ds
  | _, _, .nil => .nil
  | _, _, .cons a b => .cons (.of a) (CAll.of b)
def RA (W : Wd) (t : TA) (f : Env → Pp (List PyData)) : Prop := ∀ σ H Hs Hr ρ (Q : List V → Hp → Prop) (Q0 : List PyData → Prop), G W Hr H Hs → ER W Hs σ ρ → f ρ Q0 →
  (∀ ds vs H' Hs', Q0 ds → G W Hr H' Hs' → Same Hs Hs' → CAll W Hs' vs ds → Q vs H') → t σ H Q
def ret {α : Type} (a : α) : Pp α := fun Q => Q a
def bnd {α β : Type} (m : Pp α) (f : α → Pp β) : Pp β := fun Q => m fun a => f a Q
def fail {α : Type} : Pp α := fun _ => False
def ofO {α : Type} : Option α → Pp α
  | some a => ret a
  | none => fail
theorem ofO_some {α : Type} {o : Option α} {Q : α → Prop} (h : ofO o Q) : ∃ a, o = some a ∧ Q a := by
  cases o with
  | none => exact h.elim
  | some a => exact ⟨a, rfl, h⟩
def eVar (i : Nat) : Env → Pp PyData := fun ρ => ofO (datAt ρ i)
def eC (d : PyData) : Env → Pp PyData := fun _ => ret d
section
variable {W : Wd} {ta tb tc : TE} {fa fb fc : Env → Pp PyData}
theorem re_var (i : Nat) : RE W (tVar i) (eVar i) := fun σ H Hs Hr ρ Q Q0 g er h k => by
  obtain ⟨d, e, h⟩ := ofO_some h
  obtain ⟨v, h1, h2⟩ := er.get i d e
  exact ⟨v, h1, k d v H Hs h g (Same.refl _) h2⟩
theorem re_int (i : Int) : RE W (tC (.int i)) (eC (.int i)) := fun σ H Hs Hr ρ Q Q0 g er h k => k _ _ H Hs h g (Same.refl _) (CRel.of (.int i))
theorem re_bl (b : Bool) : RE W (tC (.bl b)) (eC (.bool b)) := fun σ H Hs Hr ρ Q Q0 g er h k => k _ _ H Hs h g (Same.refl _) (CRel.of (.bl b))
def eOp (o : PyData → PyData → Option PyData) (fa fb : Env → Pp PyData) : Env → Pp PyData := fun ρ => bnd (fa ρ) fun a => bnd (fb ρ) fun b => ofO (o a b)
def eUn (o : PyData → Option PyData) (fa : Env → Pp PyData) : Env → Pp PyData := fun ρ => bnd (fa ρ) fun a => ofO (o a)
def OD (W : Wd) (r : R2) (o : PyData → PyData → Option PyData) : Prop := ∀ x y a b c H Hs Hr (Q : VK), o a b = some c → G W Hr H Hs → CRel W Hs x a → CRel W Hs y b →
  (∀ v H' Hs', G W Hr H' Hs' → Same Hs Hs' → CRel W Hs' v c → Q v H') → r x y H Q
def UD (W : Wd) (r : V → Hp → VK → Prop) (o : PyData → Option PyData) : Prop := ∀ x a c H Hs Hr (Q : VK), o a = some c → G W Hr H Hs → CRel W Hs x a →
  (∀ v H' Hs', G W Hr H' Hs' → Same Hs Hs' → CRel W Hs' v c → Q v H') → r x H Q
theorem re_op {r : R2} {o : PyData → PyData → Option PyData} (ho : OD W r o) (ha : RE W ta fa) (hb : RE W tb fb) : RE W (tOp r ta tb) (eOp o fa fb) := fun σ H Hs Hr ρ Q Q0 g er h k =>
  ha σ H Hs Hr ρ _ _ g er h fun a x H1 Hs1 h1 g1 s1 c1 =>
    hb σ H1 Hs1 Hr ρ _ _ g1 (er.mono s1) h1 fun b y H2 Hs2 h2 g2 s2 c2 => by
      obtain ⟨c, e, q⟩ := ofO_some h2
      exact ho x y a b c H2 Hs2 Hr Q e g2 (c1.mono s2) c2 fun v H' Hs' g' s' c' => k c v H' Hs' q g' ((s1.trans s2).trans s') c'
theorem re_un {r : V → Hp → VK → Prop} {o : PyData → Option PyData} (ho : UD W r o) (ha : RE W ta fa) : RE W (tUn r ta) (eUn o fa) := fun σ H Hs Hr ρ Q Q0 g er h k =>
  ha σ H Hs Hr ρ _ _ g er h fun a x H1 Hs1 h1 g1 s1 c1 => by
    obtain ⟨c, e, q⟩ := ofO_some h1
    exact ho x a c H1 Hs1 Hr Q e g1 c1 fun v H' Hs' g' s' c' => k c v H' Hs' q g' (s1.trans s') c'
def aNil : Env → Pp (List PyData) := fun _ => ret []
def aCons (fa : Env → Pp PyData) (fs : Env → Pp (List PyData)) : Env → Pp (List PyData) := fun ρ => bnd (fa ρ) fun a => bnd (fs ρ) fun as => ret (a :: as)
theorem ra_nil : RA W tNil aNil := fun σ H Hs Hr ρ Q Q0 g er h k => k [] [] H Hs h g (Same.refl _) .nil
theorem ra_cons {t : TA} {fs : Env → Pp (List PyData)} (ha : RE W ta fa) (hr : RA W t fs) : RA W (tCons ta t) (aCons fa fs) := fun σ H Hs Hr ρ Q Q0 g er h k =>
  ha σ H Hs Hr ρ _ _ g er h fun a x H1 Hs1 h1 g1 s1 c1 =>
    hr σ H1 Hs1 Hr ρ _ _ g1 (er.mono s1) h1 fun as xs H2 Hs2 h2 g2 s2 c2 => k (a :: as) (x :: xs) H2 Hs2 h2 g2 (s1.trans s2) (.cons (c1.mono s2) c2)
def aInts (ns : List Int) : Env → Pp (List PyData) := fun _ => ret (ns.map PyData.int)
theorem call_ints {H : Hp} : ∀ ns : List Int, CAll W H (ns.map V.int) (ns.map PyData.int)
  | [] => .nil
  | n :: r => .cons (CRel.of (.int n)) (call_ints r)
theorem ra_ints (ns : List Int) : RA W (tInts ns) (aInts ns) := fun σ H Hs Hr ρ Q Q0 g er h k => k _ _ H Hs h g (Same.refl _) (call_ints ns)
def dTup (ds : List PyData) : Option PyData := if ds.all noPot = true ∧ ds.length ≤ sizeLine then some (.tuple ds) else none
def dLst (ds : List PyData) : Option PyData := if ds.all noPot = true ∧ ds.length ≤ sizeLine then some (.list ds) else none
def eTup (fs : Env → Pp (List PyData)) : Env → Pp PyData := fun ρ => bnd (fs ρ) fun ds => ofO (dTup ds)
def eLst (fs : Env → Pp (List PyData)) : Env → Pp PyData := fun ρ => bnd (fs ρ) fun ds => ofO (dLst ds)
theorem re_tup {t : TA} {fs : Env → Pp (List PyData)} (hr : RA W t fs) : RE W (tTup t) (eTup fs) := fun σ H Hs Hr ρ Q Q0 g er h k =>
  hr σ H Hs Hr ρ _ _ g er h fun ds vs H1 Hs1 h1 g1 s1 c1 => by
    obtain ⟨c, e, q⟩ := ofO_some h1
    unfold dTup at e
    split at e
    · rename_i hn
      cases e
      have z : vs.length ≤ sizeLine := by rw [c1.length]; exact hn.2
      refine ⟨z, fun p hp => k _ _ _ (upd Hs1 p (.tup vs)) q (g1.alloc hp) (s1.trans (Same.new (g1.new hp))) (CRel.of ?_)⟩
      exact .tup (SqT.of upd_same) z ((c1.dv hn.1).mono (Same.new (g1.new hp)))
    · cases e
def truD : PyData → Option Bool
  | .none => some false
  | .bool b => some b
  | .int i => some (i != 0)
  | .list ds => some (!ds.isEmpty)
  | .tuple ds => some (!ds.isEmpty)
  | _ => none
def tBool (fa : Env → Pp PyData) : Env → Pp Bool := fun ρ => bnd (fa ρ) fun a => match a with | .bool b => ret b | _ => fail
def tTru (fa : Env → Pp PyData) : Env → Pp Bool := fun ρ => bnd (fa ρ) fun a => ofO (truD a)
theorem DvAll.empty {K : PySem.W.Frag} {H : Hp} {vs : List V} {ds : List PyData} (h : DvAll K H vs ds) : vs.isEmpty = ds.isEmpty := by cases h <;> rfl
theorem rt_bool (ha : RE W ta fa) : RT W (tTest ta) (tBool fa) := fun σ H Hs Hr ρ Q Q0 g er h k =>
  ha σ H Hs Hr ρ _ _ g er h fun a x H1 Hs1 h1 g1 s1 c1 => by
    cases a <;> first | exact (h1 : False).elim | skip
    rename_i b
    have c2 : Dv W.K Hs1 x (.bool b) := c1
    cases c2
    exact ⟨b, rfl, k b H1 Hs1 h1 g1 s1⟩
theorem rt_val (ha : RE W ta fa) : RT W (tB ta) (tBool fa) := rt_bool ha
theorem rt_tru (ha : RE W ta fa) : RT W (fun σ H Q => ta σ H fun x H' => ∃ k, TruV W.K x H' k ∧ Q k H') (tTru fa) := fun σ H Hs Hr ρ Q Q0 g er h k =>
  ha σ H Hs Hr ρ _ _ g er h fun a x H1 Hs1 h1 g1 s1 c1 => by
    obtain ⟨b, e, q⟩ := ofO_some h1
    refine ⟨b, ?_, k b H1 Hs1 q g1 s1⟩
    cases a with
    | none =>
      have c2 : Dv W.K Hs1 x .none := c1
      cases c2; cases e; rfl
    | bool d =>
      have c2 : Dv W.K Hs1 x (.bool d) := c1
      cases c2; cases e; rfl
    | int i =>
      have c2 : Dv W.K Hs1 x (.int i) := c1
      cases c2; cases e; rfl
    | str z => cases e
    | list ds =>
      have c2 : Dv W.K Hs1 x (.list ds) := c1
      cases c2 with
      | lst h1 z h2 => cases e; exact .inl ⟨_, Same.lst' g1.vis h1, by rw [h2.empty]⟩
    | tuple ds =>
      have c2 : Dv W.K Hs1 x (.tuple ds) := c1
      cases c2 with
      | tup h1 z h2 => cases e; exact .inr (.inl ⟨_, Same.tup' g1.vis h1, by rw [h2.empty]⟩)
    | dict _ => cases e
def tAndP (fa fb : Env → Pp Bool) : Env → Pp Bool := fun ρ => bnd (fa ρ) fun a => if a = true then fb ρ else ret false
def tOrP (fa fb : Env → Pp Bool) : Env → Pp Bool := fun ρ => bnd (fa ρ) fun a => if a = true then ret true else fb ρ
def tNotP (fa : Env → Pp Bool) : Env → Pp Bool := fun ρ => bnd (fa ρ) fun a => ret (!a)
theorem ite_run {α : Type} {c : Prop} [Decidable c] {x y : Pp α} {Q : α → Prop} (h : (if c then x else y) Q) : (c ∧ x Q) ∨ (¬ c ∧ y Q) := by
  by_cases e : c
  · rw [if_pos e] at h; exact .inl ⟨e, h⟩
  · rw [if_neg e] at h; exact .inr ⟨e, h⟩
section
variable {t u : TT} {f1 f2 : Env → Pp Bool}
theorem rt_and (ha : RT W t f1) (hb : RT W u f2) : RT W (tAnd t u) (tAndP f1 f2) := fun σ H Hs Hr ρ Q Q0 g er h k =>
  ha σ H Hs Hr ρ _ _ g er h fun b H1 Hs1 h1 g1 s1 => by
    rcases ite_run h1 with ⟨e, h1⟩ | ⟨e, h1⟩
    · rw [if_pos e]; exact hb σ H1 Hs1 Hr ρ Q Q0 g1 (er.mono s1) h1 fun b H2 Hs2 h2 g2 s2 => k b H2 Hs2 h2 g2 (s1.trans s2)
    · rw [if_neg e]; exact k false H1 Hs1 h1 g1 s1
theorem rt_or (ha : RT W t f1) (hb : RT W u f2) : RT W (tOr t u) (tOrP f1 f2) := fun σ H Hs Hr ρ Q Q0 g er h k =>
  ha σ H Hs Hr ρ _ _ g er h fun b H1 Hs1 h1 g1 s1 => by
    rcases ite_run h1 with ⟨e, h1⟩ | ⟨e, h1⟩
    · rw [if_pos e]; exact k true H1 Hs1 h1 g1 s1
    · rw [if_neg e]; exact hb σ H1 Hs1 Hr ρ Q Q0 g1 (er.mono s1) h1 fun b H2 Hs2 h2 g2 s2 => k b H2 Hs2 h2 g2 (s1.trans s2)
theorem rt_not (ha : RT W t f1) : RT W (tNot t) (tNotP f1) := fun σ H Hs Hr ρ Q Q0 g er h k =>
  ha σ H Hs Hr ρ _ _ g er h fun b H1 Hs1 h1 g1 s1 => k (!b) H1 Hs1 h1 g1 s1
def eIf (fc : Env → Pp Bool) (fa fb : Env → Pp PyData) : Env → Pp PyData := fun ρ => bnd (fc ρ) fun c => if c = true then fa ρ else fb ρ
end
def eAnd (fa fb : Env → Pp PyData) : Env → Pp PyData := fun ρ => bnd (tBool fa ρ) fun a => if a = true then fb ρ else ret (.bool false)
def eOr (fa fb : Env → Pp PyData) : Env → Pp PyData := fun ρ => bnd (tBool fa ρ) fun a => if a = true then ret (.bool true) else fb ρ
def eNot (fa : Env → Pp PyData) : Env → Pp PyData := fun ρ => bnd (tBool fa ρ) fun a => ret (.bool (!a))
theorem re_and (ha : RE W ta fa) (hb : RE W tb fb) : RE W (tAndV ta tb) (eAnd fa fb) := fun σ H Hs Hr ρ Q Q0 g er h k =>
  ha σ H Hs Hr ρ _ _ g er h fun a x H1 Hs1 h1 g1 s1 c1 => by
    cases a <;> first | exact (h1 : False).elim | skip
    rename_i b
    have c2 : Dv W.K Hs1 x (.bool b) := c1
    cases c2
    refine ⟨b, rfl, ?_⟩
    rcases ite_run h1 with ⟨e, h1⟩ | ⟨e, h1⟩
    · rw [if_pos e]; exact hb σ H1 Hs1 Hr ρ Q Q0 g1 (er.mono s1) h1 fun b v H2 Hs2 h2 g2 s2 => k b v H2 Hs2 h2 g2 (s1.trans s2)
    · rw [if_neg e]; exact k _ _ H1 Hs1 h1 g1 s1 (CRel.of (.bl false))
def CD (W : Wd) (r : List V → Hp → VK → Prop) (o : List PyData → Option PyData) : Prop := ∀ xs as c H Hs Hr (Q : VK), o as = some c → G W Hr H Hs → CAll W Hs xs as →
  (∀ v H' Hs', G W Hr H' Hs' → Same Hs Hs' → CRel W Hs' v c → Q v H') → r xs H Q
def eCB (o : List PyData → Option PyData) (fs : Env → Pp (List PyData)) : Env → Pp PyData := fun ρ => bnd (fs ρ) fun ds => ofO (o ds)
theorem re_cb {r : List V → Hp → VK → Prop} {o : List PyData → Option PyData} {t : TA} {fs : Env → Pp (List PyData)} (ho : CD W r o) (ha : RA W t fs) : RE W (tCB r t) (eCB o fs) := fun σ H Hs Hr ρ Q Q0 g er h k =>
  ha σ H Hs Hr ρ _ _ g er h fun a x H1 Hs1 h1 g1 s1 c1 => by
    obtain ⟨c, e, q⟩ := ofO_some h1
    exact ho x a c H1 Hs1 Hr Q e g1 c1 fun v H' Hs' g' s' c' => k c v H' Hs' q g' (s1.trans s') c'
def spP (K : PySem.W.Frag) (g : List PyData → Pp PyData) : Sp := fun vs H Q _ => ∃ Hs Hr ds Q0, J H Hs e0 Hr ∧ DvAll K Hs vs ds ∧ g ds Q0 ∧ ∀ d v H' Hs', Q0 d → J H' Hs' e0 Hr → Same Hs Hs' → Dv K Hs' v d → Q v H'
def spM (W : Wd) (g : List PyData → Pp PyData) : Sp := fun vs H Q _ => ∃ Hs Hr ds Q0, G W Hr H Hs ∧ CAll W Hs vs ds ∧ g ds Q0 ∧ ∀ d v H' Hs', Q0 d → G W Hr H' Hs' → Same Hs Hs' → CRel W Hs' v d → Q v H'
def eCall (g : List PyData → Pp PyData) (fs : Env → Pp (List PyData)) : Env → Pp PyData := fun ρ => bnd (fs ρ) fun ds => g ds
def gP (g : List PyData → Pp PyData) : List PyData → Pp PyData := fun ds Q => ds.all noPot = true ∧ g ds Q
theorem re_callP {g : List PyData → Pp PyData} {t : TA} {fs : Env → Pp (List PyData)} (ha : RA W t fs) : RE W (tCall (spP W.K g) [] E0 t) (eCall (gP g) fs) := fun σ H Hs Hr ρ Q Q0 gg er h k =>
  ha σ H Hs Hr ρ _ _ gg er h fun ds vs H1 Hs1 h1 g1 s1 c1 => by
    obtain ⟨Hq, j, hp⟩ := g1
    obtain ⟨n, h1⟩ := h1
    rw [List.append_nil]
    exact ⟨Hs1, plus Hq Hr, ds, Q0, j.hide, c1.dv n, h1, fun d v H' Hs' q j' s' c' => k d v H' Hs' q ⟨Hq, j'.unhide j.qr, hp⟩ (s1.trans s') (CRel.of c')⟩
end
end DL
set_option Elab.async false
set_option linter.all false
set_option maxRecDepth 100000
set_option maxHeartbeats 400000
namespace DL
open PySem L2
section
variable {K : PySem.W.Frag} {H : Hp} {v : V}
theorem Dv.i_bool {b : Bool} (h : Dv K H v (.bool b)) : v = .bl b := by cases h; rfl
theorem Dv.i_int {i : Int} (h : Dv K H v (.int i)) : v = .int i := by cases h; rfl
theorem Dv.i_str {x : Str} (h : Dv K H v (.str x)) : v = .str x := by cases h; rfl
theorem Dv.i_list {ds : List PyData} (h : Dv K H v (.list ds)) : ∃ a xs, v = .ref a ∧ SqL K H a xs ∧ xs.length ≤ sizeLine ∧ DvAll K H xs ds := by cases h with | lst a b c => exact ⟨_, _, rfl, a, b, c⟩
theorem Dv.i_tup {ds : List PyData} (h : Dv K H v (.tuple ds)) : ∃ a xs, v = .ref a ∧ SqT K H a xs ∧ xs.length ≤ sizeLine ∧ DvAll K H xs ds := by cases h with | tup a b c => exact ⟨_, _, rfl, a, b, c⟩
end
def flatD : PyData → Bool
  | .none | .bool _ | .int _ | .str _ => true
  | _ => false
def toV : PyData → V
  | .none => .non
  | .bool b => .bl b
  | .int i => .int i
  | .str x => .str x
  | _ => .non
theorem Dv.flat {K : PySem.W.Frag} {H : Hp} {v : V} {d : PyData} (h : Dv K H v d) (f : flatD d = true) : v = toV d := by
  cases h <;> first | rfl | cases f
theorem flatV_to {d : PyData} (f : flatD d = true) : flatV (toV d) = true := by cases d <;> first | rfl | cases f
theorem eqV_to {d e : PyData} (f : flatD d = true) (f' : flatD e = true) : eqV (toV d) (toV e) = PyData.eqv d e := by
  cases d <;> cases e <;> first | (exfalso; simp [flatD] at f; done) | (exfalso; simp [flatD] at f'; done) | (simp only [toV, eqV, PyData.eqv]; done) | (simp [toV, eqV, PyData.eqv]; done)
theorem DvAll.flat {K : PySem.W.Frag} {H : Hp} : ∀ {vs : List V} {ds : List PyData}, DvAll K H vs ds → ds.all flatD = true → vs = ds.map toV
  | _, _, .nil, _ => rfl
  | _, _, .cons a b, f => by
    rw [List.all_cons, Bool.and_eq_true] at f
    rw [List.map_cons, a.flat f.1, DvAll.flat b f.2]
theorem flat_all {ds : List PyData} (f : ds.all flatD = true) : (ds.map toV).all flatV = true := by
  rw [List.all_map]
  exact List.all_eq_true.mpr fun d hd => flatV_to (List.all_eq_true.mp f d hd)
theorem inV_to {d : PyData} {ds : List PyData} (fd : flatD d = true) (f : ds.all flatD = true) : inV (toV d) (ds.map toV) = ds.any fun e => PyData.eqv e d := by
  unfold inV
  rw [List.any_map]
  induction ds with
  | nil => rfl
  | cons e r ih =>
    rw [List.all_cons, Bool.and_eq_true] at f
    rw [List.any_cons, List.any_cons, ih f.2]
    show (eqV (toV e) (toV d) || _) = _
    rw [eqV_to f.1 fd]
def rAddA (K : PySem.W.Frag) : R2 := fun x y H Q => rI0 (fun i j => .int (i + j)) x y H Q ∨ (rCatA K x y H Q ∨ (rCatS K x y H Q ∨ ∃ i j, x = .str i ∧ y = .str j ∧ i.length + j.length ≤ sizeLine ∧ Q (.str (i ++ j)) H))
theorem op_addA {X : Cx} : OpR X (binaryOp .Add) (rAddA X.K) := op_add.or (op_catA.or (op_catS.or op_add_str))
def dAdd : PyData → PyData → Option PyData
  | .int i, .int j => some (.int (i + j))
  | .tuple xs, .tuple ys => if xs.length + ys.length ≤ sizeLine then some (.tuple (xs ++ ys)) else none
  | .list xs, .list ys => if xs.length + ys.length ≤ sizeLine then some (.list (xs ++ ys)) else none
  | .str x, .str y => if x.length + y.length ≤ sizeLine then some (.str (x ++ y)) else none
  | _, _ => none
section
variable {W : Wd}
theorem CRel.i_int {H : Hp} {v : V} {i : Int} (h : CRel W H v (.int i)) : v = .int i := Dv.i_int h
theorem od_add : OD W (rAddA W.K) dAdd := by
  intro x y a b c H Hs Hr Q e g ca cb k
  unfold dAdd at e
  split at e
  · cases e
    cases Dv.i_int ca; cases Dv.i_int cb
    exact .inl ⟨_, _, rfl, rfl, k _ H Hs g (Same.refl _) (CRel.of (.int _))⟩
  · rename_i xs ys
    split at e
    · rename_i hz
      cases e
      obtain ⟨p1, v1, rfl, h1, z1, q1⟩ := Dv.i_tup ca
      obtain ⟨p2, v2, rfl, h2, z2, q2⟩ := Dv.i_tup cb
      have l1 := q1.length
      have l2 := q2.length
      refine .inr (.inl ⟨p1, p2, v1, v2, rfl, rfl, Same.tup' g.vis h1, Same.tup' g.vis h2, by omega, fun e => ?_, fun e1 e2 => ?_, fun e1 e2 p hp => ?_⟩)
      · subst e
        cases q1
        exact k _ H Hs g (Same.refl _) (CRel.of (.tup h2 z2 q2))
      · subst e2
        cases q2
        rw [List.append_nil] at k
        exact k _ H Hs g (Same.refl _) (CRel.of (.tup h1 z1 q1))
      · refine k _ _ (upd Hs p _) (g.alloc hp) (Same.new (g.new hp)) (CRel.of (.tup (SqT.of upd_same) (by rw [List.length_append]; omega) ?_))
        exact (q1.append q2).mono (Same.new (g.new hp))
    · cases e
  · rename_i xs ys
    split at e
    · rename_i hz
      cases e
      obtain ⟨p1, v1, rfl, h1, z1, q1⟩ := Dv.i_list ca
      obtain ⟨p2, v2, rfl, h2, z2, q2⟩ := Dv.i_list cb
      have l1 := q1.length
      have l2 := q2.length
      refine .inr (.inr (.inl ⟨p1, p2, v1, v2, rfl, rfl, Same.lst' g.vis h1, Same.lst' g.vis h2, by omega, fun p hp => ?_⟩))
      refine k _ _ (upd Hs p _) (g.alloc hp) (Same.new (g.new hp)) (CRel.of (.lst (SqL.of upd_same) (by rw [List.length_append]; omega) ?_))
      exact (q1.append q2).mono (Same.new (g.new hp))
    · cases e
  · split at e
    · rename_i hz
      cases e
      cases Dv.i_str ca; cases Dv.i_str cb
      exact .inr (.inr (.inr ⟨_, _, rfl, rfl, hz, k _ H Hs g (Same.refl _) (CRel.of (.str _))⟩))
    · cases e
  · cases e
def dI (C : Int → Int → Bool) (f : Int → Int → PyData) : PyData → PyData → Option PyData
  | .int i, .int j => if C i j = true then some (f i j) else none
  | _, _ => none
theorem od_I {C : Int → Int → Prop} {Cb : Int → Int → Bool} {gv : Int → Int → V} {f : Int → Int → PyData} (hC : ∀ i j, Cb i j = true → C i j) (hf : ∀ i j H, Dv W.K H (gv i j) (f i j)) : OD W (rI C gv) (dI Cb f) := by
  intro x y a b c H Hs Hr Q e g ca cb k
  unfold dI at e
  split at e
  · split at e
    · rename_i hc
      cases e
      cases Dv.i_int ca; cases Dv.i_int cb
      exact ⟨_, _, rfl, rfl, hC _ _ hc, k _ H Hs g (Same.refl _) (CRel.of (hf _ _ _))⟩
    · cases e
  · cases e
def dI0 (f : Int → Int → PyData) : PyData → PyData → Option PyData
  | .int i, .int j => some (f i j)
  | _, _ => none
theorem od_I0 {gv : Int → Int → V} {f : Int → Int → PyData} (hf : ∀ i j H, Dv W.K H (gv i j) (f i j)) : OD W (rI0 gv) (dI0 f) := by
  intro x y a b c H Hs Hr Q e g ca cb k
  unfold dI0 at e
  split at e
  · cases e
    cases Dv.i_int ca; cases Dv.i_int cb
    exact ⟨_, _, rfl, rfl, k _ H Hs g (Same.refl _) (CRel.of (hf _ _ _))⟩
  · cases e
abbrev dSub := dI0 fun i j => .int (i - j)
abbrev dLt := dI0 fun i j => .bool (decide (i < j))
abbrev dLe := dI0 fun i j => .bool (decide (i ≤ j))
abbrev dGt := dI0 fun i j => .bool (decide (j < i))
abbrev dGe := dI0 fun i j => .bool (decide (j ≤ i))
theorem od_gt : OD W (rI0 fun i j => .bl (decide (j < i))) dGt := od_I0 fun _ _ _ => .bl _
theorem od_ge : OD W (rI0 fun i j => .bl (decide (j ≤ i))) dGe := od_I0 fun _ _ _ => .bl _
abbrev dMod := dI (fun _ j => decide (0 < j)) fun i j => .int (i % j)
theorem od_mod : OD W (rI (fun _ j => 0 < j) fun i j => .int (i % j)) dMod := od_I (fun _ _ h => of_decide_eq_true h) fun _ _ _ => .int _
abbrev dDiv := dI (fun _ j => decide (0 < j) && decide (j < 1073741824)) fun i j => .int (i / j)
theorem od_div : OD W (rI CDiv fun i j => .int (i / j)) dDiv := od_I (fun _ _ h => by rw [Bool.and_eq_true] at h; exact ⟨of_decide_eq_true h.1, of_decide_eq_true h.2⟩) fun _ _ _ => .int _
abbrev dPow := dI (fun i j => decide (0 ≤ j) && (decide (j ≤ 1000000) && decide (i.natAbs < 2 ^ 64))) fun i j => .int (i ^ j.toNat)
theorem od_pow : OD W (rI CPow fun i j => .int (i ^ j.toNat)) dPow := od_I (fun _ _ h => by rw [Bool.and_eq_true, Bool.and_eq_true] at h; exact ⟨of_decide_eq_true h.1, of_decide_eq_true h.2.1, of_decide_eq_true h.2.2⟩) fun _ _ _ => .int _
def dNeg : PyData → Option PyData
  | .int i => some (.int (-i))
  | _ => none
theorem ud_neg : UD W (rU fun i => .int (-i)) dNeg := by
  intro x a c H Hs Hr Q e g ca k
  unfold dNeg at e
  split at e
  · cases e
    cases Dv.i_int ca
    exact ⟨_, rfl, k _ H Hs g (Same.refl _) (CRel.of (.int _))⟩
  · cases e
def CMulW (i j : Int) : Prop := CMul i j ∨ (i.natAbs < 2 ^ 512 ∧ j.natAbs < 2 ^ 512)
theorem bits_le {k : Int} {n : Nat} (h : k.natAbs < 2 ^ n) : Builtin.Int.intBits k ≤ n := by
  unfold Builtin.Int.intBits
  split
  · exact Nat.zero_le _
  · rename_i hz
    have hp : k.natAbs ≠ 0 := fun e => hz (by have : k = 0 := by omega
                                              subst this; rfl)
    have := (Nat.log2_lt hp).mpr h
    omega
theorem CMulW.ok {i j : Int} (h : CMulW i j) : IntMulOk i j := by
  rcases h with h | ⟨h1, h2⟩
  · exact h.ok
  · have b1 := bits_le h1
    have b2 := bits_le h2
    have hc : Builtin.Int.intTooBig (Builtin.Int.intBits i + Builtin.Int.intBits j) = false := by
      unfold Builtin.Int.intTooBig bitsLine
      exact decide_eq_false (by omega)
    unfold IntMulOk
    rw [hc]; simp
theorem op_mulW {X : Cx} : OpR X (binaryOp .Mult) (rI CMulW fun i j => .int (i * j)) := opI fun _ _ _ _ _ _ _ hc q => PyProof.Rows.mul_int q hc.ok
def rMulA (K : PySem.W.Frag) : R2 := fun x y H Q => rI CMulW (fun i j => .int (i * j)) x y H Q ∨ (rRepT K x y H Q ∨ rRep x y H Q)
theorem op_mulA {X : Cx} : OpR X (binaryOp .Mult) (rMulA X.K) := op_mulW.or (op_repT.or op_rep)
def dMul : PyData → PyData → Option PyData
  | .int i, .int j => if ((-(2 ^ 64) < i ∧ i < 2 ^ 64) ∨ (-(2 ^ 64) < j ∧ j < 2 ^ 64)) ∨ (i.natAbs < 2 ^ 512 ∧ j.natAbs < 2 ^ 512) then some (.int (i * j)) else none
  | .tuple [d], .int k => if 0 ≤ k ∧ k ≤ 1000 then some (.tuple (List.replicate k.toNat d)) else none
  | _, _ => none
theorem DvAll.replicate {K : PySem.W.Frag} {H : Hp} {v : V} {d : PyData} (h : Dv K H v d) : ∀ n : Nat, DvAll K H (List.replicate n v) (List.replicate n d)
  | 0 => .nil
  | n + 1 => .cons h (DvAll.replicate h n)
theorem le_line {n : Nat} (h : n ≤ 1000) : n ≤ sizeLine := Nat.le_of_lt (small1000 h)
theorem od_mul : OD W (rMulA W.K) dMul := by
  intro x y a b c H Hs Hr Q e g ca cb k
  unfold dMul at e
  split at e
  · split at e
    · rename_i hc
      cases e
      cases Dv.i_int ca; cases Dv.i_int cb
      exact .inl ⟨_, _, rfl, rfl, hc, k _ H Hs g (Same.refl _) (CRel.of (.int _))⟩
    · cases e
  · rename_i d n
    split at e
    · rename_i hc
      cases e
      obtain ⟨p1, v1, rfl, h1, z1, q1⟩ := Dv.i_tup ca
      cases Dv.i_int cb
      cases q1 with
      | cons qd qn =>
        cases qn
        refine .inr (.inl ⟨p1, _, n, rfl, rfl, Same.tup' g.vis h1, hc.1, hc.2, fun e => ?_, fun e p hp => ?_⟩)
        · subst e
          exact k _ H Hs g (Same.refl _) (CRel.of (.tup h1 z1 (.cons qd .nil)))
        · refine k _ _ (upd Hs p _) (g.alloc hp) (Same.new (g.new hp)) (CRel.of (.tup (SqT.of upd_same) (by rw [List.length_replicate]; exact le_line (by omega)) ?_))
          exact (DvAll.replicate qd _).mono (Same.new (g.new hp))
    · cases e
  · cases e
def dEq (a b : PyData) : Option PyData := if SeqAt.shaped a = true ∧ SeqAt.shaped b = true then some (.bool (PyData.eqv a b)) else none
def dNe (a b : PyData) : Option PyData := if SeqAt.shaped a = true ∧ SeqAt.shaped b = true then some (.bool (!PyData.eqv a b)) else none
theorem shaped_noPot {a : PyData} (h : SeqAt.shaped a = true) : noPot a = true := by cases a <;> first | rfl | (exact absurd h (by decide)) | (cases h)
theorem od_eq : OD W (rEqD W.K) dEq := by
  intro x y a b c H Hs Hr Q e g ca cb k
  unfold dEq at e
  split at e
  · rename_i hc
    cases e
    exact ⟨a, b, Dv.dp _ ((ca.dv (shaped_noPot hc.1)).mono g.vis), Dv.dp _ ((cb.dv (shaped_noPot hc.2)).mono g.vis), hc.1, hc.2, k _ H Hs g (Same.refl _) (CRel.of (.bl _))⟩
  · cases e
theorem od_ne : OD W (rNeD W.K) dNe := by
  intro x y a b c H Hs Hr Q e g ca cb k
  unfold dNe at e
  split at e
  · rename_i hc
    cases e
    exact ⟨a, b, Dv.dp _ ((ca.dv (shaped_noPot hc.1)).mono g.vis), Dv.dp _ ((cb.dv (shaped_noPot hc.2)).mono g.vis), hc.1, hc.2, k _ H Hs g (Same.refl _) (CRel.of (.bl _))⟩
  · cases e
def itemsD : PyData → Option (List PyData)
  | .list ds => some ds
  | .tuple ds => some ds
  | _ => none
theorem seqOf {K : PySem.W.Frag} {H Hs : Hp} (s : Same Hs H) {v : V} {d : PyData} {ds : List PyData} (e : itemsD d = some ds) (h : Dv K Hs v d) : ∃ p xs, v = .ref p ∧ (SqL K H p xs ∨ SqT K H p xs) ∧ xs.length ≤ sizeLine ∧ DvAll K Hs xs ds := by
  cases d <;> first | (cases e; done) | skip
  · cases e
    obtain ⟨a, xs, rfl, h1, z, q⟩ := h.i_list
    exact ⟨a, xs, rfl, .inl (Same.lst' s h1), z, q⟩
  · cases e
    obtain ⟨a, xs, rfl, h1, z, q⟩ := h.i_tup
    exact ⟨a, xs, rfl, .inr (Same.tup' s h1), z, q⟩
theorem items_noPot {d : PyData} {ds : List PyData} (e : itemsD d = some ds) : noPot d = true := by cases d <;> first | rfl | (cases e)
theorem flat_noPot {d : PyData} (e : flatD d = true) : noPot d = true := by cases d <;> first | rfl | (cases e)
def dIn (neg : Bool) (a b : PyData) : Option PyData := match itemsD b with
  | some ds => if flatD a = true ∧ ds.all flatD = true then some (.bool (if neg then !(ds.any fun e => PyData.eqv e a) else ds.any fun e => PyData.eqv e a)) else none
  | none => none
theorem od_in (neg : Bool) : OD W (rIn W.K neg) (dIn neg) := by
  intro x y a b c H Hs Hr Q e g ca cb k
  unfold dIn at e
  split at e
  · rename_i ds hi
    split at e
    · rename_i hc
      cases e
      have da := (ca.dv (flat_noPot hc.1)).flat hc.1
      obtain ⟨p, xs, rfl, hq, z, qa⟩ := seqOf g.vis hi (cb.dv (items_noPot hi))
      have ex := qa.flat hc.2
      subst da ex
      refine ⟨p, _, rfl, hq, flatV_to hc.1, flat_all hc.2, ?_⟩
      rw [inV_to hc.1 hc.2]
      exact k _ H Hs g (Same.refl _) (CRel.of (.bl _))
    · cases e
  · cases e
def isNoneD : PyData → Bool
  | .none => true
  | _ => false
def dIsN (a b : PyData) : Option PyData := match b with | .none => some (.bool (isNoneD a)) | _ => none
def dNotN (a b : PyData) : Option PyData := match b with | .none => some (.bool (!isNoneD a)) | _ => none
theorem DvAll.atI {K : PySem.W.Frag} {H : Hp} {vs : List V} {ds : List PyData} {i : Int} {d : PyData} (h : DvAll K H vs ds) (e : atI ds i = some d) : ∃ v, atI vs i = some v ∧ Dv K H v d := by
  unfold L2.atI at e ⊢
  rw [h.length]
  cases q : ixN ds.length i with
  | none => rw [q] at e; cases e
  | some j => rw [q] at e; exact h.getD' e
def dIx : PyData → PyData → Option PyData
  | .list ds, .int i => L2.atI ds i
  | .tuple ds, .int i => L2.atI ds i
  | _, _ => none
theorem od_ix : OD W (rIx W.K) dIx := by
  intro x y a b c H Hs Hr Q e g ca cb k
  unfold dIx at e
  split at e
  · cases Dv.i_int cb
    obtain ⟨p, xs, rfl, h1, z, q⟩ := Dv.i_list ca
    obtain ⟨v, h2, h3⟩ := q.atI e
    exact .inl ⟨p, xs, _, v, rfl, rfl, Same.lst' g.vis h1, h2, k _ H Hs g (Same.refl _) (CRel.of h3)⟩
  · cases Dv.i_int cb
    obtain ⟨p, xs, rfl, h1, z, q⟩ := Dv.i_tup ca
    obtain ⟨v, h2, h3⟩ := q.atI e
    exact .inr (.inl ⟨p, xs, _, v, rfl, rfl, Same.tup' g.vis h1, h2, k _ H Hs g (Same.refl _) (CRel.of h3)⟩)
  · cases e
def rSlTW (K : PySem.W.Frag) : V → Option Int → Option Int → Hp → VK → Prop := fun x lo hi H Q => ∃ a xs, x = .ref a ∧ SqT K H a xs ∧ (HT.sIx xs.length 0 lo = 0 ∧ HT.sIx xs.length xs.length hi = xs.length) ∧ Q (.ref a) H
end
end DL
set_option Elab.async false
set_option linter.all false
set_option maxRecDepth 100000
set_option maxHeartbeats 400000
namespace L2
open PySem PySem.Spec PyProof.Rows
section
variable {X : Cx} {tg : Expr}
def iAny (K : PySem.W.Frag) (tl : TE) : TI := fun σ H R => tl σ H fun x H1 => (∃ a, x = .ref a ∧ (∃ xs, SqL K H1 a xs) ∧ R (Itl K a) H1) ∨ (∃ a, x = .ref a ∧ (∃ xs, SqT K H1 a xs) ∧ R (Itt K a) H1)
theorem pi_any {l : Expr} {tl : TE} (hl : PE X l tl) : PI X tg l (iAny X.K tl) := by
  intro pins s σ H R I h
  refine thn (hl pins s σ H _ I h) fun v s1 ⟨x, H1, I1, r1, q1⟩ => ?_
  rcases q1 with ⟨a, e, ⟨xs, hq⟩, q⟩ | ⟨a, e, ⟨xs, hq⟩, q⟩
  · subst e
    cases r1
    obtain ⟨its, rv, p, hz⟩ := I1.list hq
    refine wpAny_pyIter_list p.isList ?_
    refine ⟨s1.heap.objs.size, [s1.heap.objs.size], _, _, H1, rfl, I1.kept (t' := s1.toks) fun b o e => Heap.get?_push_of_some _ e, turn_list a _, ⟨_, Heap.get?_push_size _ rfl, rfl, rfl⟩, fun b hb => ?_, q⟩
    have e : b = s1.heap.objs.size := by simpa using hb
    subst e
    exact I1.fpOk (Nat.le_refl _) (I1.hok.fresh (Nat.le_refl _))
  · subst e
    cases r1
    obtain ⟨its, rv, p, hz⟩ := I1.tuple hq
    refine wpAny_pyIter_tuple (show s1.heap.IsTuple a its.toArray from p) ?_
    refine ⟨s1.heap.objs.size, [s1.heap.objs.size], _, _, H1, rfl, I1.kept (t' := s1.toks) fun b o e => Heap.get?_push_of_some _ e, turn_tuple a _, ⟨_, Heap.get?_push_size _ rfl, rfl, rfl⟩, fun b hb => ?_, q⟩
    have e : b = s1.heap.objs.size := by simpa using hb
    subst e
    exact I1.fpOk (Nat.le_refl _) (I1.hok.fresh (Nat.le_refl _))
end
end L2
namespace DL
open PySem L2
section
variable {W : Wd}
theorem CAll.one {H : Hp} {xs : List V} {a : PyData} (h : CAll W H xs [a]) : ∃ x, xs = [x] ∧ CRel W H x a := by
  cases h with | cons h1 h2 => cases h2; exact ⟨_, rfl, h1⟩
theorem CAll.two {H : Hp} {xs : List V} {a b : PyData} (h : CAll W H xs [a, b]) : ∃ x y, xs = [x, y] ∧ CRel W H x a ∧ CRel W H y b := by
  cases h with | cons h1 h2 => cases h2 with | cons h3 h4 => cases h4; exact ⟨_, _, rfl, h1, h3⟩
def d1 (o : PyData → Option PyData) : List PyData → Option PyData
  | [a] => o a
  | _ => none
def dLen (a : PyData) : Option PyData := match itemsD a with
  | some ds => some (.int (ds.length : Nat))
  | none => none
theorem cd_len : CD W (fun xs H Q => ∃ p ys, xs = [.ref p] ∧ (SqL W.K H p ys ∨ SqT W.K H p ys) ∧ Q (.int ys.length) H) (d1 dLen) := by
  intro xs as c H Hs Hr Q e g ca k
  unfold d1 at e
  split at e
  · unfold dLen at e
    split at e
    · rename_i a ds hi
      cases e
      obtain ⟨x, rfl, c1⟩ := ca.one
      obtain ⟨p, ys, rfl, hq, z, q⟩ := seqOf g.vis hi (c1.dv (items_noPot hi))
      refine ⟨p, ys, rfl, hq, ?_⟩
      rw [q.length]
      exact k _ H Hs g (Same.refl _) (CRel.of (.int _))
    · cases e
  · cases e
def dAbs : PyData → Option PyData
  | .int i => some (.int (if i < 0 then -i else i))
  | _ => none
theorem cd_abs : CD W (fun xs H Q => ∃ i, xs = [.int i] ∧ Q (.int (if i < 0 then -i else i)) H) (d1 dAbs) := by
  intro xs as c H Hs Hr Q e g ca k
  unfold d1 at e
  split at e
  · unfold dAbs at e
    split at e
    · cases e
      obtain ⟨x, rfl, c1⟩ := ca.one
      cases Dv.i_int c1
      exact ⟨_, rfl, k _ H Hs g (Same.refl _) (CRel.of (.int _))⟩
    · cases e
  · cases e
def dInt : PyData → Option PyData
  | .int i => some (.int i)
  | .bool b => some (.int (if b then 1 else 0))
  | _ => none
def dTupOf (a : PyData) : Option PyData := match itemsD a with
  | some ds => some (.tuple ds)
  | none => none
theorem cd_tup : CD W (fun xs H Q => ∃ p ys, xs = [.ref p] ∧ ((SqL W.K H p ys ∧ ∀ l, H l = none → Q (.ref l) (upd H l (.tup ys))) ∨ (SqT W.K H p ys ∧ Q (.ref p) H))) (d1 dTupOf) := by
  intro xs as c H Hs Hr Q e g ca k
  unfold d1 at e
  split at e
  · rename_i a
    obtain ⟨x, rfl, c1⟩ := ca.one
    cases a <;> first | (cases e; done) | skip
    · cases e
      obtain ⟨p, ys, rfl, h1, z, q⟩ := Dv.i_list c1
      refine ⟨p, ys, rfl, .inl ⟨Same.lst' g.vis h1, fun l hl => ?_⟩⟩
      exact k _ _ (upd Hs l _) (g.alloc hl) (Same.new (g.new hl)) (CRel.of (.tup (SqT.of upd_same) z (q.mono (Same.new (g.new hl)))))
    · cases e
      obtain ⟨p, ys, rfl, h1, z, q⟩ := Dv.i_tup c1
      exact ⟨p, ys, rfl, .inr ⟨Same.tup' g.vis h1, k _ H Hs g (Same.refl _) (CRel.of (.tup h1 z q))⟩⟩
  · cases e
def dLstOf (a : PyData) : Option PyData := match itemsD a with
  | some ds => some (.list ds)
  | none => none
theorem cd_lst : CD W (fun xs H Q => ∃ p ys, xs = [.ref p] ∧ (SqL W.K H p ys ∨ SqT W.K H p ys) ∧ ∀ l, H l = none → Q (.ref l) (upd H l (.lst ys))) (d1 dLstOf) := by
  intro xs as c H Hs Hr Q e g ca k
  unfold d1 at e
  split at e
  · unfold dLstOf at e
    split at e
    · rename_i a ds hi
      cases e
      obtain ⟨x, rfl, c1⟩ := ca.one
      obtain ⟨p, ys, rfl, hq, z, q⟩ := seqOf g.vis hi (c1.dv (items_noPot hi))
      refine ⟨p, ys, rfl, hq, fun l hl => ?_⟩
      exact k _ _ (upd Hs l _) (g.alloc hl) (Same.new (g.new hl)) (CRel.of (.lst (SqL.of upd_same) z (q.mono (Same.new (g.new hl)))))
    · cases e
  · cases e
def asInts : List PyData → Option (List Int)
  | [] => some []
  | .int i :: r => (asInts r).map (i :: ·)
  | _ => none
theorem asInts_map : ∀ ns : List Int, asInts (ns.map PyData.int) = some ns
  | [] => rfl
  | n :: r => by show (asInts (r.map PyData.int)).map (n :: ·) = _; rw [asInts_map r]; rfl
theorem DvAll.ints {K : PySem.W.Frag} {H : Hp} : ∀ {vs : List V} {ds : List PyData} {ns : List Int}, DvAll K H vs ds → asInts ds = some ns → vs = ns.map V.int
  | _, _, _, .nil, e => by cases e; rfl
  | _, d :: ds, ns, .cons a b, e => by
    cases d <;> first | (cases e; done) | skip
    rename_i i
    cases h : asInts ds with
    | none => simp [asInts, h] at e
    | some ms =>
      simp [asInts, h] at e
      subst e
      rw [List.map_cons, ← DvAll.ints b h, a.i_int]
theorem ints_dv {K : PySem.W.Frag} {H : Hp} : ∀ ns : List Int, DvAll K H (ns.map V.int) (ns.map PyData.int)
  | [] => .nil
  | n :: r => .cons (.int n) (ints_dv r)
def asBools : List PyData → Option (List Bool)
  | [] => some []
  | .bool i :: r => (asBools r).map (i :: ·)
  | _ => none
theorem asBools_map : ∀ ns : List Bool, asBools (ns.map PyData.bool) = some ns
  | [] => rfl
  | n :: r => by show (asBools (r.map PyData.bool)).map (n :: ·) = _; rw [asBools_map r]; rfl
theorem DvAll.bools {K : PySem.W.Frag} {H : Hp} : ∀ {vs : List V} {ds : List PyData} {ns : List Bool}, DvAll K H vs ds → asBools ds = some ns → vs = ns.map V.bl
  | _, _, _, .nil, e => by cases e; rfl
  | _, d :: ds, ns, .cons a b, e => by
    cases d <;> first | (cases e; done) | skip
    rename_i i
    cases h : asBools ds with
    | none => simp [asBools, h] at e
    | some ms =>
      simp [asBools, h] at e
      subst e
      rw [List.map_cons, ← DvAll.bools b h, a.i_bool]
def dSum : PyData → Option PyData
  | .list ds => (asInts ds).map fun ns => .int ns.sum
  | _ => none
def dAny : PyData → Option PyData
  | .list ds => (asBools ds).map fun ns => .bool (ns.any id)
  | _ => none
def dAll : PyData → Option PyData
  | .list ds => (asBools ds).map fun ns => .bool (ns.all id)
  | _ => none
theorem cd_all : CD W (rAll W.K) (d1 dAll) := by
  intro xs as c H Hs Hr Q e g ca k
  unfold d1 at e
  split at e
  · unfold dAll at e
    split at e
    · rename_i ds
      obtain ⟨x, rfl, c1⟩ := ca.one
      obtain ⟨p, ys, rfl, h1, z, q⟩ := Dv.i_list c1
      cases hn : asBools ds with
      | none => simp [hn] at e
      | some ns =>
        simp only [hn, Option.map_some, Option.some.injEq] at e
        subst e
        have := q.bools hn
        subst this
        exact ⟨p, ns, rfl, Same.lst' g.vis h1, k _ H Hs g (Same.refl _) (CRel.of (.bl _))⟩
    · cases e
  · cases e
def ins (x : Int) : List Int → List Int
  | [] => [x]
  | y :: r => if x ≤ y then x :: y :: r else y :: ins x r
def isort : List Int → List Int
  | [] => []
  | x :: r => ins x (isort r)
theorem ins_perm (x : Int) : ∀ l : List Int, (ins x l).Perm (x :: l)
  | [] => .refl _
  | y :: r => by
    unfold ins
    split
    · exact .refl _
    · exact ((ins_perm x r).cons y).trans (.swap x y r)
theorem isort_perm : ∀ l : List Int, (isort l).Perm l
  | [] => .refl _
  | x :: r => (ins_perm x _).trans ((isort_perm r).cons x)
theorem ins_sorted (x : Int) : ∀ {l : List Int}, l.Pairwise (· ≤ ·) → (ins x l).Pairwise (· ≤ ·)
  | [], _ => by simp [ins]
  | y :: r, h => by
    unfold ins
    split
    · rename_i hxy
      refine List.pairwise_cons.mpr ⟨fun z hz => ?_, h⟩
      rcases List.mem_cons.mp hz with rfl | hz
      · exact hxy
      · exact Int.le_trans hxy ((List.pairwise_cons.mp h).1 z hz)
    · rename_i hxy
      refine List.pairwise_cons.mpr ⟨fun z hz => ?_, ins_sorted x (List.pairwise_cons.mp h).2⟩
      rcases List.mem_cons.mp ((ins_perm x r).mem_iff.mp hz) with rfl | hz
      · omega
      · exact (List.pairwise_cons.mp h).1 z hz
theorem isort_sorted : ∀ l : List Int, (isort l).Pairwise (· ≤ ·)
  | [] => List.Pairwise.nil
  | x :: r => ins_sorted x (isort_sorted r)
theorem isort_eq {l l' : List Int} (p : l'.Perm l) (s : l'.Pairwise (· ≤ ·)) : l' = isort l :=
  (p.trans (isort_perm l).symm).eq_of_pairwise (fun a b _ _ h1 h2 => Int.le_antisymm h1 h2) s (isort_sorted l)
def dSort : PyData → Option PyData
  | .list ds => match asInts ds with
    | some ns => if ns.length < 64 then some (.list ((isort ns).map PyData.int)) else none
    | none => none
  | _ => none
inductive Sets (W : Wd) (Hs : Hp) : List Nat → St → St → Env → Env → Prop
  | nil {σ : St} {ρ : Env} : Sets W Hs [] σ σ ρ ρ
  | cons {i : Nat} {is : List Nat} {σ σ' : St} {ρ ρ' : Env} {v : V} {d : PyData} : CRel W Hs v d → Sets W Hs is (σ.set i (some v)) σ' (ρ.set i (some (.dat d))) ρ' → Sets W Hs (i :: is) σ σ' ρ ρ'
theorem Sets.trans {Hs : Hp} : ∀ {is js : List Nat} {σ σ1 σ2 : St} {ρ ρ1 ρ2 : Env}, Sets W Hs is σ σ1 ρ ρ1 → Sets W Hs js σ1 σ2 ρ1 ρ2 → Sets W Hs (is ++ js) σ σ2 ρ ρ2
  | _, _, _, _, _, _, _, _, .nil, h => h
  | _, _, _, _, _, _, _, _, .cons c h1, h => .cons c (h1.trans h)
def RG (W : Wd) (g : TG) (is : List Nat) (f : PyData → Env → Pp Env) : Prop := ∀ v d σ H Hs Hr ρ (Q : St → Hp → Prop) (Q0 : Env → Prop), G W Hr H Hs → CRel W Hs v d → f d ρ Q0 →
  (∀ σ' ρ', Sets W Hs is σ σ' ρ ρ' → Q0 ρ' → Q σ' H) → g v σ H Q
def RGs (W : Wd) (g : TGs) (is : List Nat) (f : List PyData → Env → Pp Env) : Prop := ∀ vs ds σ H Hs Hr ρ (Q : St → Hp → Prop) (Q0 : Env → Prop), G W Hr H Hs → CAll W Hs vs ds → f ds ρ Q0 →
  (∀ σ' ρ', Sets W Hs is σ σ' ρ ρ' → Q0 ρ' → Q σ' H) → g vs σ H Q
def gN (i : Nat) : PyData → Env → Pp Env := fun d ρ => ret (ρ.set i (some (.dat d)))
def gsNil : List PyData → Env → Pp Env := fun ds ρ => match ds with | [] => ret ρ | _ => fail
def gsCons (f : PyData → Env → Pp Env) (fs : List PyData → Env → Pp Env) : List PyData → Env → Pp Env := fun ds ρ => match ds with | d :: r => bnd (f d ρ) fun ρ' => fs r ρ' | [] => fail
def gT (n : Nat) (fs : List PyData → Env → Pp Env) : PyData → Env → Pp Env := fun d ρ => match d with | .tuple ds => if ds.length = n then fs ds ρ else fail | _ => fail
theorem rg_name (i : Nat) : RG W (gName i) [i] (gN i) := fun v d σ H Hs Hr ρ Q Q0 g c h k => k _ _ (.cons c .nil) h
theorem rgs_nil : RGs W gNil [] gsNil := fun vs ds σ H Hs Hr ρ Q Q0 g c h k => by
  cases c with
  | nil => exact ⟨rfl, k _ _ .nil h⟩
  | cons _ _ => exact (h : False).elim
theorem rgs_cons {t : TG} {u : TGs} {is js : List Nat} {f : PyData → Env → Pp Env} {fs : List PyData → Env → Pp Env} (h1 : RG W t is f) (h2 : RGs W u js fs) : RGs W (gCons t u) (is ++ js) (gsCons f fs) := fun vs ds σ H Hs Hr ρ Q Q0 g c h k => by
  cases c with
  | nil => exact (h : False).elim
  | cons c1 c2 => exact ⟨_, _, rfl, h1 _ _ σ H Hs Hr ρ _ _ g c1 h fun σ' ρ' s h' => h2 _ _ σ' H Hs Hr ρ' _ _ g c2 h' fun σ2 ρ2 s2 h2 => k σ2 ρ2 (s.trans s2) h2⟩
theorem rg_tup {n : Nat} {t : TGs} {is : List Nat} {fs : List PyData → Env → Pp Env} (h1 : RGs W t is fs) : RG W (gTup W.K n t) is (gT n fs) := fun v d σ H Hs Hr ρ Q Q0 g c h k => by
  cases d <;> first | exact (h : False).elim | skip
  rename_i ds
  rcases ite_run h with ⟨e, h⟩ | ⟨_, h⟩
  · obtain ⟨a, xs, rfl, hq, z, q⟩ := Dv.i_tup c
    exact ⟨a, xs, rfl, Same.tup' g.vis hq, by rw [q.length]; exact e, h1 xs ds σ H Hs Hr ρ Q Q0 g (CAll.of q) h k⟩
  · exact (h : False).elim
structure ItOk (W : Wd) (I : It) (Hs : Hp) (ds : List PyData) : Prop where
  small : ds.length ≤ sizeLine
  go : ∀ i Hr H' Hs', i < ds.length → G W Hr H' Hs' → Same Hs Hs' → I.go i H'
  yld : ∀ i Hr H' Hs' x H2, G W Hr H' Hs' → Same Hs Hs' → i < ds.length → I.yld i H' x H2 → ∃ Hs2 d, G W Hr H2 Hs2 ∧ Same Hs' Hs2 ∧ ds[i]? = some d ∧ CRel W Hs2 x d
  stop : ∀ i Hr H' Hs', ds.length ≤ i → G W Hr H' Hs' → Same Hs Hs' → I.stop i H'
def RI (W : Wd) (wi : TI) (f : Env → Pp (List PyData)) : Prop := ∀ σ H Hs Hr ρ (R : It → Hp → Prop) (Q0 : List PyData → Prop), G W Hr H Hs → ER W Hs σ ρ → f ρ Q0 →
  (∀ ds I H' Hs', Q0 ds → G W Hr H' Hs' → Same Hs Hs' → ItOk W I Hs' ds → R I H') → wi σ H R
def iSeq (fa : Env → Pp PyData) : Env → Pp (List PyData) := fun ρ => bnd (fa ρ) fun a => ofO (itemsD a)
theorem DvAll.at {K : PySem.W.Frag} {H : Hp} {vs : List V} {ds : List PyData} (h : DvAll K H vs ds) {i : Nat} (hi : i < ds.length) : ∃ v d, vs[i]? = some v ∧ ds[i]? = some d ∧ Dv K H v d := by
  have e : ds[i]? = some ds[i] := List.getElem?_eq_getElem hi
  obtain ⟨v, h1, h2⟩ := h.getD' e
  exact ⟨v, _, h1, e, h2⟩
theorem ri_seq {ta : TE} {fa : Env → Pp PyData} (ha : RE W ta fa) : RI W (iAny W.K ta) (iSeq fa) := fun σ H Hs Hr ρ R Q0 g er h k =>
  ha σ H Hs Hr ρ _ _ g er h fun a x H1 Hs1 h1 g1 s1 c1 => by
    obtain ⟨ds, e, q⟩ := ofO_some h1
    cases a <;> first | (cases e; done) | skip
    · cases e
      obtain ⟨p, xs, rfl, hp, z, qa⟩ := Dv.i_list c1
      refine .inl ⟨p, rfl, ⟨xs, Same.lst' g1.vis hp⟩, k _ _ H1 Hs1 q g1 s1 ⟨by rw [← qa.length]; exact z, ?_, ?_, ?_⟩⟩
      · intro i Hr H' Hs' hi g' s'
        obtain ⟨v, d, e1, _, _⟩ := qa.at hi
        exact ⟨xs, v, Same.lst' g'.vis (Same.lst' s' hp), e1⟩
      · rintro i Hr H' Hs' x H2 g' s' hi ⟨rfl, y⟩
        obtain ⟨v, d, e1, e2, e3⟩ := qa.at hi
        have := y xs (Same.lst' g'.vis (Same.lst' s' hp))
        rw [e1] at this
        cases this
        exact ⟨Hs', d, g', Same.refl _, e2, CRel.of (e3.mono s')⟩
      · intro i Hr H' Hs' hi g' s'
        exact ⟨xs, Same.lst' g'.vis (Same.lst' s' hp), by rw [qa.length]; exact hi⟩
    · cases e
      obtain ⟨p, xs, rfl, hp, z, qa⟩ := Dv.i_tup c1
      refine .inr ⟨p, rfl, ⟨xs, Same.tup' g1.vis hp⟩, k _ _ H1 Hs1 q g1 s1 ⟨by rw [← qa.length]; exact z, ?_, ?_, ?_⟩⟩
      · intro i Hr H' Hs' hi g' s'
        obtain ⟨v, d, e1, _, _⟩ := qa.at hi
        exact ⟨xs, v, Same.tup' (s'.trans g'.vis) hp, e1⟩
      · rintro i Hr H' Hs' x H2 g' s' hi ⟨rfl, y⟩
        obtain ⟨v, d, e1, e2, e3⟩ := qa.at hi
        have := y xs (Same.tup' (s'.trans g'.vis) hp)
        rw [e1] at this
        cases this
        exact ⟨Hs', d, g', Same.refl _, e2, CRel.of (e3.mono s')⟩
      · intro i Hr H' Hs' hi g' s'
        exact ⟨xs, Same.tup' (s'.trans g'.vis) hp, by rw [qa.length]; exact hi⟩
def rangeD (lo : Int) (n : Nat) : List PyData := (List.range n).map fun k => PyData.int (lo + (k : Nat))
theorem rangeD_len (lo : Int) (n : Nat) : (rangeD lo n).length = n := by simp [rangeD]
theorem rangeD_get {lo : Int} {n i : Nat} (h : i < n) : (rangeD lo n)[i]? = some (PyData.int (lo + (i : Nat))) := by simp [rangeD, h]
theorem itr_ok {Hs : Hp} {lo : Int} {n : Nat} (h : n ≤ sizeLine) : ItOk W (Itr lo n) Hs (rangeD lo n) where
  small := by rw [rangeD_len]; exact h
  go := fun i _ _ _ hi _ _ => by rw [rangeD_len] at hi; exact hi
  yld := by
    rintro i Hr H' Hs' x H2 g s hi ⟨rfl, rfl⟩
    rw [rangeD_len] at hi
    exact ⟨Hs', _, g, Same.refl _, rangeD_get hi, CRel.of (.int _)⟩
  stop := fun i _ _ _ hi _ _ => by rw [rangeD_len] at hi; exact hi
def iR1 (fs : Env → Pp (List PyData)) : Env → Pp (List PyData) := fun ρ => bnd (fs ρ) fun ds => match ds with
  | [.int j] => if -(2 ^ 62) ≤ j ∧ j ≤ sizeLine then ret (rangeD 0 j.toNat) else fail
  | _ => fail
def iR2 (fs : Env → Pp (List PyData)) : Env → Pp (List PyData) := fun ρ => bnd (fs ρ) fun ds => match ds with
  | [.int i, .int j] => if -(2 ^ 62) ≤ i ∧ i < 2 ^ 62 ∧ -(2 ^ 62) ≤ j ∧ j < 2 ^ 62 ∧ j - i ≤ sizeLine then ret (rangeD i (j - i).toNat) else fail
  | _ => fail
theorem line_eq : sizeLine = 16777216 := by decide
end
end DL
set_option Elab.async false
set_option linter.all false
set_option maxRecDepth 100000
set_option maxHeartbeats 400000
namespace DL
open PySem L2
theorem J.pub {H Hs Hq Hr : Hp} {p : Addr} {o : HO} (hp : Hr p = none) (j : J H Hs Hq (upd Hr p o)) : J H (upd Hs p o) Hq Hr := fun a => by
  by_cases e : a = p
  · subst e
    rcases j a with ⟨_, _, h2⟩ | ⟨_, _, h2⟩ | ⟨h, h1, h2⟩
    · rw [upd_same] at h2; cases h2
    · rw [upd_same] at h2; cases h2
    · exact .inl ⟨by rw [upd_same]; rw [upd_same] at h; exact h, h2, hp⟩
  · have := j a
    rw [upd_ne e] at this
    rw [upd_ne e]
    exact this
theorem J.rnew {H Hs Hq Hr : Hp} {p : Addr} {o : HO} (j : J H Hs Hq Hr) (h : Hr p = some o) : Hs p = none := by
  rcases j p with ⟨_, _, h2⟩ | ⟨_, _, h2⟩ | ⟨_, h1, _⟩
  · rw [h] at h2; cases h2
  · rw [h] at h2; cases h2
  · exact h1
section
variable {W : Wd}
theorem G.pub {H Hs Hr : Hp} {p : Addr} {o : HO} (hp : Hr p = none) (g : G W (upd Hr p o) H Hs) : G W Hr H (upd Hs p o) := let ⟨q, j, z⟩ := g; ⟨q, j.pub hp, z⟩
theorem G.visr {H Hs Hr : Hp} (g : G W Hr H Hs) : Same Hr H := let ⟨_, j, _⟩ := g; j.visr
theorem G.putr {H Hs Hr : Hp} {p : Addr} {o u : HO} (g : G W Hr H Hs) (h : Hr p = some u) : G W (upd Hr p o) (upd H p o) Hs := let ⟨q, j, z⟩ := g; ⟨q, j.putr h, z⟩
theorem G.rnew {H Hs Hr : Hp} {p : Addr} {o : HO} (g : G W Hr H Hs) (h : Hr p = some o) : Hs p = none := let ⟨_, j, _⟩ := g; j.rnew h
def RF (W : Wd) (t : TE) (f : Env → Pp (List PyData)) : Prop := ∀ σ H Hs Hr ρ (Q : VK) (Q0 : List PyData → Prop), G W Hr H Hs → ER W Hs σ ρ → f ρ Q0 →
  (∀ ds p vs H' Hs', Q0 ds → Hr p = none → G W (upd Hr p (.lst vs)) H' Hs' → Same Hs Hs' → vs.length ≤ sizeLine → DvAll W.K Hs' vs ds → Q (.ref p) H') → t σ H Q
def eL (f : Env → Pp (List PyData)) : Env → Pp PyData := fun ρ => bnd (f ρ) fun ds => ret (.list ds)
theorem RF.re {t : TE} {f : Env → Pp (List PyData)} (h : RF W t f) : RE W t (eL f) := fun σ H Hs Hr ρ Q Q0 g er hf k =>
  h σ H Hs Hr ρ Q (fun ds => Q0 (.list ds)) g er hf fun ds p vs H' Hs' q hp g' s' z a => by
    have hn : Hs' p = none := g'.rnew upd_same
    exact k _ _ H' (upd Hs' p (.lst vs)) q (g'.pub hp) (s'.trans (Same.new hn)) (CRel.of (.lst (SqL.of upd_same) z (a.mono (Same.new hn))))
def fLst (fs : Env → Pp (List PyData)) : Env → Pp (List PyData) := fun ρ => bnd (fs ρ) fun ds Q => (ds.all noPot = true ∧ ds.length ≤ sizeLine) ∧ Q ds
theorem rf_lst {t : TA} {fs : Env → Pp (List PyData)} (hr : RA W t fs) : RF W (tLst t) (fLst fs) := fun σ H Hs Hr ρ Q Q0 g er h k =>
  hr σ H Hs Hr ρ _ _ g er h fun ds vs H1 Hs1 h1 g1 s1 c1 => by
    obtain ⟨⟨hn, hz⟩, q⟩ := h1
    have z : vs.length ≤ sizeLine := by rw [c1.length]; exact hz
    exact ⟨z, fun p hp => k ds p vs _ Hs1 q (g1.newr hp) (g1.allocr hp) s1 z (c1.dv hn)⟩
def wipeE (ρ : Env) : List Nat → Env
  | [] => ρ
  | v :: vs => (wipeE ρ vs).set v none
theorem wipeE_length (ρ : Env) : ∀ vs : List Nat, (wipeE ρ vs).length = ρ.length
  | [] => rfl
  | v :: vs => by unfold wipeE; rw [List.length_set, wipeE_length ρ vs]
theorem wipe_get {σ : St} {i : Nat} : ∀ {vs : List Nat}, i ∉ vs → (wipe σ vs)[i]? = σ[i]?
  | [], _ => rfl
  | v :: vs, h => by
    unfold wipe
    rw [List.mem_cons, not_or] at h
    rw [List.getElem?_set_ne (fun e => h.1 e.symm), wipe_get h.2]
theorem wipeE_some {ρ : Env} {i : Nat} {x : Cell} : ∀ {vs : List Nat}, (wipeE ρ vs)[i]? = some (some x) → ρ[i]? = some (some x) ∧ i ∉ vs
  | [], h => ⟨h, by simp⟩
  | v :: vs, h => by
    unfold wipeE at h
    by_cases hi : v = i
    · subst hi
      by_cases hv : v < (wipeE ρ vs).length
      · rw [List.getElem?_set_self hv] at h; cases h
      · rw [List.getElem?_eq_none (by simpa using hv)] at h; cases h
    · rw [List.getElem?_set_ne hi] at h
      obtain ⟨h1, h2⟩ := wipeE_some h
      exact ⟨h1, by simp only [List.mem_cons, not_or]; exact ⟨fun e => hi e.symm, h2⟩⟩
theorem datAt_some {ρ : Env} {i : Nat} {d : PyData} (h : datAt ρ i = some d) : ρ[i]? = some (some (.dat d)) := by
  unfold datAt datO at h
  split at h
  · rename_i e; cases h; exact e
  · cases h
theorem datAt_of {ρ : Env} {i : Nat} {d : PyData} (h : ρ[i]? = some (some (.dat d))) : datAt ρ i = some d := by
  unfold datAt; rw [h]; rfl
theorem ER.wipe {Hs : Hp} {σ : St} {ρ : Env} (er : ER W Hs σ ρ) (vs : List Nat) : ER W Hs (wipe σ vs) (wipeE ρ vs) :=
  ⟨by rw [wipeE_length, wipe_length]; exact er.len, fun i d e => by
    obtain ⟨h1, h2⟩ := wipeE_some (datAt_some e)
    obtain ⟨v, e1, c⟩ := er.get i d (datAt_of h1)
    exact ⟨v, by rw [wipe_get h2]; exact e1, c⟩⟩
theorem ER.set {Hs : Hp} {σ : St} {ρ : Env} (er : ER W Hs σ ρ) {i : Nat} {v : V} {d : PyData} (c : CRel W Hs v d) : ER W Hs (σ.set i (some v)) (ρ.set i (some (.dat d))) :=
  ⟨by simpa using er.len, fun j e h => by
    have h := datAt_some h
    have hl := er.len
    by_cases hj : i = j
    · subst hj
      by_cases hi : i < ρ.length
      · rw [List.getElem?_set_self hi] at h
        cases h
        exact ⟨v, by rw [List.getElem?_set_self (by omega)], c⟩
      · rw [List.getElem?_eq_none (by simpa using hi)] at h; cases h
    · rw [List.getElem?_set_ne hj] at h
      obtain ⟨u, e1, c1⟩ := er.get j e (datAt_of h)
      exact ⟨u, by rw [List.getElem?_set_ne hj]; exact e1, c1⟩⟩
theorem Sets.er {Hs : Hp} : ∀ {is : List Nat} {σ σ' : St} {ρ ρ' : Env}, Sets W Hs is σ σ' ρ ρ' → ER W Hs σ ρ → ER W Hs σ' ρ'
  | _, _, _, _, _, .nil, h => h
  | _, _, _, _, _, .cons c r, h => r.er (h.set c)
theorem Sets.mono {Hs Hs' : Hp} (s : Same Hs Hs') : ∀ {is : List Nat} {σ σ' : St} {ρ ρ' : Env}, Sets W Hs is σ σ' ρ ρ' → Sets W Hs' is σ σ' ρ ρ'
  | _, _, _, _, _, .nil => .nil
  | _, _, _, _, _, .cons c r => .cons (c.mono s) (r.mono s)
theorem wipe_set {σ : St} {i : Nat} {x : Option V} : ∀ {vs : List Nat}, i ∈ vs → wipe (σ.set i x) vs = wipe σ vs
  | [], h => by cases h
  | v :: vs, h => by
    unfold wipe
    by_cases hi : i ∈ vs
    · rw [wipe_set hi]
    · have e : i = v := by
        rcases List.mem_cons.mp h with h | h
        · exact h
        · exact absurd h hi
      subst e
      have : ∀ {ws : List Nat}, i ∉ ws → wipe (σ.set i x) ws = (wipe σ ws).set i x := by
        intro ws
        induction ws with
        | nil => intro _; rfl
        | cons w ws ih =>
          intro hw
          rw [List.mem_cons, not_or] at hw
          unfold wipe
          rw [ih hw.2, List.set_comm _ _ hw.1]
      rw [this hi, List.set_set]
theorem Sets.wipe {Hs : Hp} {vs : List Nat} : ∀ {is : List Nat} {σ σ' : St} {ρ ρ' : Env}, Sets W Hs is σ σ' ρ ρ' → (∀ i ∈ is, i ∈ vs) → L2.wipe σ' vs = L2.wipe σ vs
  | _, _, _, _, _, .nil, _ => rfl
  | _, _, _, _, _, .cons (i := i) c r, h => by
    rw [r.wipe fun j hj => h j (List.mem_cons_of_mem _ hj), wipe_set (h i List.mem_cons_self)]
theorem wipe_idem {σ : St} {vs : List Nat} : L2.wipe (L2.wipe σ vs) vs = L2.wipe σ vs := by
  have : ∀ {ws : List Nat}, (∀ i ∈ ws, i ∈ vs) → L2.wipe (L2.wipe σ ws) vs = L2.wipe σ vs := by
    intro ws
    induction ws with
    | nil => intro _; rfl
    | cons w ws ih =>
      intro h
      show L2.wipe ((L2.wipe σ ws).set w none) vs = _
      rw [wipe_set (h w List.mem_cons_self), ih fun i hi => h i (List.mem_cons_of_mem _ hi)]
  exact this fun i hi => hi
def lcGo (g : PyData → Env → Pp Env) (ft : Env → Pp Bool) (fe : Env → Pp PyData) (ρ : Env) : List PyData → Pp (List PyData)
  | [] => ret []
  | d :: r => bnd (g d ρ) fun ρ2 => bnd (ft ρ2) fun b => if b = true then bnd (fe ρ2) fun y => fun Q => noPot y = true ∧ lcGo g ft fe ρ r (fun ys => Q (y :: ys)) else lcGo g ft fe ρ r
def fLc (it : Env → Pp (List PyData)) (g : PyData → Env → Pp Env) (ft : Env → Pp Bool) (fe : Env → Pp PyData) (vs : List Nat) : Env → Pp (List PyData) := fun ρ => bnd (it ρ) fun ds => lcGo g ft fe (wipeE ρ vs) ds
theorem drop_cons {α : Type} {l : List α} {i : Nat} {d : α} (h : l[i]? = some d) : l.drop i = d :: l.drop (i + 1) := by
  obtain ⟨hi, e⟩ := List.getElem?_eq_some_iff.mp h
  rw [List.drop_eq_getElem_cons hi, e]
theorem rf_lc {wi : TI} {it : Env → Pp (List PyData)} {g : TG} {is : List Nat} {fg : PyData → Env → Pp Env} {tt : TT} {ft : Env → Pp Bool} {te : TE} {fe : Env → Pp PyData} {vs : List Nat}
    (hi : RI W wi it) (hg : RG W g is fg) (hsub : ∀ i ∈ is, i ∈ vs) (ht : RT W tt ft) (he : RE W te fe) : RF W (tLc wi g tt te vs) (fLc it fg ft fe vs) := fun σ H Hs Hr ρ Q Q0 gg er h k =>
  hi σ H Hs Hr ρ _ _ gg er h fun ds I H1 Hs1 h1 g1 s1 ok => by
    intro D hD
    have hrD : Hr D = none := g1.newr hD
    have er1 := (er.mono s1).wipe vs
    refine ⟨fun i m H => m = ds.length - i ∧ i ≤ ds.length ∧ ∃ Hs2 acc accd, G W (upd Hr D (.lst acc)) H Hs2 ∧ Same Hs1 Hs2 ∧ acc.length ≤ i ∧ DvAll W.K Hs2 acc accd ∧ lcGo fg ft fe (wipeE ρ vs) (ds.drop i) (fun ys => Q0 (accd ++ ys)),
      ⟨_, rfl, Nat.zero_le _, Hs1, [], [], g1.allocr hD, Same.refl _, Nat.le_refl _, .nil, h1⟩, ?_⟩
    rintro i m H' ⟨rfl, hile, Hs2, acc, accd, g2, s2, hacc, hda, hgo⟩
    by_cases hlt : i < ds.length
    · obtain ⟨d, hd⟩ : ∃ d, ds[i]? = some d := ⟨ds[i], List.getElem?_eq_getElem hlt⟩
      refine .inr ⟨ok.go i _ H' Hs2 hlt g2 s2, fun H => ds.length - (i + 1) = ds.length - (i + 1) ∧ i + 1 ≤ ds.length ∧ ∃ Hs2 acc accd, G W (upd Hr D (.lst acc)) H Hs2 ∧ Same Hs1 Hs2 ∧ acc.length ≤ i + 1 ∧ DvAll W.K Hs2 acc accd ∧ lcGo fg ft fe (wipeE ρ vs) (ds.drop (i + 1)) (fun ys => Q0 (accd ++ ys)), fun H'' z => ⟨ds.length - (i + 1), by omega, z⟩, fun x Hx y => ?_⟩
      obtain ⟨Hs3, d', g3, s3, hd', c3⟩ := ok.yld i _ H' Hs2 x Hx g2 s2 hlt y
      rw [hd] at hd'
      cases hd'
      rw [drop_cons hd] at hgo
      refine hg x d (L2.wipe σ vs) Hx Hs3 _ (wipeE ρ vs) _ _ g3 c3 hgo fun σ2 ρ2 st hgo2 => ?_
      refine ⟨by rw [st.wipe hsub, wipe_idem], ?_⟩
      have er2 : ER W Hs3 σ2 ρ2 := st.er ((er1.mono s2).mono s3)
      refine ht σ2 Hx Hs3 _ ρ2 _ _ g3 er2 hgo2 fun b H4 Hs4 h4 g4 s4 => ?_
      rcases ite_run h4 with ⟨eb, h4⟩ | ⟨eb, h4⟩
      · rw [if_pos eb]
        refine he σ2 H4 Hs4 _ ρ2 _ _ g4 (er2.mono s4) h4 fun y v H5 Hs5 h5 g5 s5 c5 => ?_
        obtain ⟨np, h5⟩ := h5
        refine ⟨acc, g5.visr _ _ upd_same, by have := ok.small; omega, rfl, hlt, Hs5, acc ++ [v], accd ++ [y], ?_, ((s2.trans s3).trans s4).trans s5, by rw [List.length_append, List.length_singleton]; omega, ?_, ?_⟩
        · have := g5.putr (p := D) (o := .lst (acc ++ [v])) upd_same
          rw [upd_upd] at this
          exact this
        · exact (hda.mono ((s3.trans s4).trans s5)).append (.cons (c5.dv np) .nil)
        · simpa using h5
      · rw [if_neg eb]
        exact ⟨rfl, hlt, Hs4, acc, accd, g4, (s2.trans s3).trans s4, by omega, hda.mono (s3.trans s4), h4⟩
    · have e : ds.drop i = [] := List.drop_eq_nil_of_le (by omega)
      rw [e] at hgo
      have hq : Q0 accd := by simpa [lcGo, ret] using hgo
      exact .inl ⟨ok.stop i _ H' Hs2 (by omega) g2 s2, k accd D acc H' Hs2 hq hrD g2 (s1.trans s2) (by have := ok.small; omega) hda⟩
end
end DL
set_option Elab.async false
set_option linter.all false
set_option maxRecDepth 100000
set_option maxHeartbeats 400000
namespace DL
open PySem L2
def minus (A B : Hp) : Hp := fun a => match B a with | some _ => none | none => A a
theorem minus_in {A B : Hp} {a : Addr} (h : B a = none) : minus A B a = A a := by unfold minus; rw [h]
theorem minus_out {A B : Hp} {a : Addr} {o : HO} (h : B a = some o) : minus A B a = none := by unfold minus; rw [h]
theorem J.unshow {H Hs Hq Hr Ho : Hp} (ap : Apart Ho Hr) (s : Same Ho Hs) (j : J H Hs Hq Hr) : J H (minus Hs Ho) Hq (plus Ho Hr) := fun a => by
  cases e : Ho a with
  | none =>
    rw [minus_in e, plus_r e]
    exact j a
  | some o =>
    rw [minus_out e, plus_l e]
    have hs := s a o e
    rcases j a with ⟨h, h1, h2⟩ | ⟨_, h1, _⟩ | ⟨_, h1, _⟩
    · exact .inr (.inr ⟨by rw [h, hs], rfl, h1⟩)
    · rw [hs] at h1; cases h1
    · rw [hs] at h1; cases h1
theorem Same.plusr {A B : Hp} (ap : Apart A B) : Same B (plus A B) := fun a o e => by
  rcases ap a with h | h
  · rw [plus_r h]; exact e
  · rw [e] at h; cases h
theorem Same.minus {A B C : Hp} (ap : Apart A B) (s : Same A C) : Same A (minus C B) := fun a o e => by
  rcases ap a with h | h
  · rw [e] at h; cases h
  · rw [minus_in h]; exact s a o e
mutual
def noList : PyData → Bool
  | .none | .bool _ | .int _ | .str _ => true
  | .list _ => false
  | .tuple xs => noListAll xs
  | .dict _ => false
def noListAll : List PyData → Bool
  | [] => true
  | x :: xs => noList x && noListAll xs
end
def Lsts (Ho : Hp) : Prop := ∀ a o, Ho a = some o → ∃ xs, o = .lst xs
theorem SqT.minus {K : PySem.W.Frag} {H Ho : Hp} {a : Addr} {xs : List V} (l : Lsts Ho) (s : Same Ho H) (h : SqT K H a xs) : SqT K (minus H Ho) a xs := by
  have key : ∀ u, (∀ ys, u ≠ HO.lst ys) → H a = some u → DL.minus H Ho a = some u := fun u hu e => by
    cases q : Ho a with
    | none => rw [minus_in q]; exact e
    | some o =>
      obtain ⟨ys, rfl⟩ := l a o q
      have := s a _ q
      rw [e] at this
      cases this
      exact absurd rfl (hu ys)
  rcases h with (h | ⟨o, h⟩) | h
  · exact .inl (.inl (key _ (fun ys z => by cases z) h))
  · exact .inl (.inr ⟨o, key _ (fun ys z => by cases z) h⟩)
  · exact .inr h
mutual
theorem Dv.minus {K : PySem.W.Frag} {H Ho : Hp} (l : Lsts Ho) (s : Same Ho H) : ∀ {v : V} (d : PyData), noList d = true → Dv K H v d → Dv K (DL.minus H Ho) v d
  | _, .none, _, h => by cases h; exact .non
  | _, .bool _, _, h => by cases h; exact .bl _
  | _, .int _, _, h => by cases h; exact .int _
  | _, .str _, _, h => by cases h; exact .str _
  | _, .list _, n, _ => by cases n
  | _, .tuple ds, n, h => by cases h with | tup a z q => exact .tup (SqT.minus l s a) z (DvAll.minus l s ds n q)
  | _, .dict _, n, _ => by cases n
theorem DvAll.minus {K : PySem.W.Frag} {H Ho : Hp} (l : Lsts Ho) (s : Same Ho H) : ∀ {vs : List V} (ds : List PyData), noListAll ds = true → DvAll K H vs ds → DvAll K (DL.minus H Ho) vs ds
  | _, [], _, h => by cases h; exact .nil
  | _, d :: ds, n, h => by
    cases h with
    | cons a b =>
      have n' : noList d = true ∧ noListAll ds = true := by simpa [noListAll] using n
      exact .cons (Dv.minus l s d n'.1 a) (DvAll.minus l s ds n'.2 b)
end
theorem CRel.minus {W : Wd} {H Ho : Hp} (l : Lsts Ho) (s : Same Ho H) {v : V} {d : PyData} (n : noList d = true) (h : CRel W H v d) : CRel W (DL.minus H Ho) v d := by
  have np : noPot d = true := by cases d <;> first | rfl | cases n
  exact CRel.of ((h.dv np).minus l s d n)
def frzC : Cell → Cell
  | .own ds => .dat (.list ds)
  | c => c
def frzAll (ρ : Env) : Env := ρ.map (Option.map frzC)
theorem frzAll_dat {ρ : Env} {i : Nat} {d : PyData} (h : datAt (frzAll ρ) i = some d) : datAt ρ i = some d ∨ ∃ ds, ρ[i]? = some (some (.own ds)) ∧ d = .list ds := by
  have h := datAt_some h
  unfold frzAll at h
  rw [List.getElem?_map] at h
  cases e : ρ[i]? with
  | none => rw [e] at h; cases h
  | some c =>
    rw [e] at h
    cases c with
    | none => cases h
    | some c =>
      cases c with
      | dat x => cases h; exact .inl (datAt_of e)
      | own ds => cases h; exact .inr ⟨ds, rfl, rfl⟩
structure OR (W : Wd) (Ho Hs : Hp) (σ : St) (ρ : Env) : Prop where
  lst : Lsts Ho
  get : ∀ (i : Nat) (ds : List PyData), ρ[i]? = some (some (Cell.own ds)) → ∃ p xs, σ[i]? = some (some (.ref p)) ∧ Ho p = some (.lst xs) ∧ xs.length ≤ sizeLine ∧ DvAll W.K Hs xs ds
  one : ∀ (i j : Nat) (ds es : List PyData) (p : Addr), ρ[i]? = some (some (.own ds)) → ρ[j]? = some (some (.own es)) → σ[i]? = some (some (.ref p)) → σ[j]? = some (some (.ref p)) → i = j
structure SR0 (W : Wd) (Ho Hr H Hs : Hp) (σ : St) (ρ : Env) : Prop where
  ap : Apart Ho Hr
  g : G W (plus Ho Hr) H Hs
  er : ER W Hs σ ρ
  own : OR W Ho Hs σ ρ
def SR (W : Wd) (Hr H Hs : Hp) (σ : St) (ρ : Env) : Prop := ∃ Ho, SR0 W Ho Hr H Hs σ ρ
section
variable {W : Wd}
theorem OR.mono {Ho Hs Hs' : Hp} {σ : St} {ρ : Env} (s : Same Hs Hs') (h : OR W Ho Hs σ ρ) : OR W Ho Hs' σ ρ :=
  ⟨h.lst, fun i ds e => let ⟨p, xs, a, b, c, d⟩ := h.get i ds e; ⟨p, xs, a, b, c, d.mono s⟩, h.one⟩
theorem OR.set {Ho Hs : Hp} {σ : St} {ρ : Env} {i : Nat} {v : V} {d : PyData} (h : OR W Ho Hs σ ρ) : OR W Ho Hs (σ.set i (some v)) (ρ.set i (some (.dat d))) := by
  have key : ∀ {j : Nat} {ds : List PyData}, (ρ.set i (some (.dat d)))[j]? = some (some (.own ds)) → i ≠ j ∧ ρ[j]? = some (some (.own ds)) := fun {j ds} e => by
    by_cases hj : i = j
    · subst hj
      by_cases hi : i < ρ.length
      · rw [List.getElem?_set_self hi] at e; cases e
      · rw [List.getElem?_eq_none (by simpa using hi)] at e; cases e
    · rw [List.getElem?_set_ne hj] at e; exact ⟨hj, e⟩
  refine ⟨h.lst, fun j ds e => ?_, fun j k ds es p e1 e2 q1 q2 => ?_⟩
  · obtain ⟨hj, e⟩ := key e
    obtain ⟨p, xs, a, b, c, z⟩ := h.get j ds e
    exact ⟨p, xs, by rw [List.getElem?_set_ne hj]; exact a, b, c, z⟩
  · obtain ⟨hj, e1⟩ := key e1
    obtain ⟨hk, e2⟩ := key e2
    rw [List.getElem?_set_ne hj] at q1
    rw [List.getElem?_set_ne hk] at q2
    exact h.one j k ds es p e1 e2 q1 q2
theorem Sets.own {Ho Hs : Hp} : ∀ {is : List Nat} {σ σ' : St} {ρ ρ' : Env}, Sets W Hs is σ σ' ρ ρ' → OR W Ho Hs σ ρ → OR W Ho Hs σ' ρ'
  | _, _, _, _, _, .nil, h => h
  | _, _, _, _, _, .cons c r, h => r.own h.set
theorem SR0.step {Ho Hr H Hs H' Hs' : Hp} {σ : St} {ρ : Env} (s : SR0 W Ho Hr H Hs σ ρ) (g : G W (plus Ho Hr) H' Hs') (q : Same Hs Hs') : SR0 W Ho Hr H' Hs' σ ρ := ⟨s.ap, g, s.er.mono q, s.own.mono q⟩
theorem SR0.sets {Ho Hr H Hs : Hp} {σ σ' : St} {ρ ρ' : Env} {is : List Nat} (s : SR0 W Ho Hr H Hs σ ρ) (st : Sets W Hs is σ σ' ρ ρ') : SR0 W Ho Hr H Hs σ' ρ' := ⟨s.ap, s.g, st.er s.er, st.own s.own⟩
theorem apart_vis {Ho Hr H Hs : Hp} (g : G W (plus Ho Hr) H Hs) : Apart Hs Ho := by
  obtain ⟨q, j, _⟩ := g
  intro a
  rcases j.sr a with h | h
  · exact .inl h
  · cases e : Ho a with
    | none => exact .inr rfl
    | some o => rw [plus_l e] at h; cases h
theorem G.shw {Ho Hr H Hs : Hp} (ap : Apart Ho Hr) (g : G W (plus Ho Hr) H Hs) : G W Hr H (plus Hs Ho) := let ⟨q, j, z⟩ := g; ⟨q, j.show ap, z⟩
theorem G.unshw {Ho Hr H Hs : Hp} (ap : Apart Ho Hr) (s : Same Ho Hs) (g : G W Hr H Hs) : G W (plus Ho Hr) H (minus Hs Ho) := let ⟨q, j, z⟩ := g; ⟨q, j.unshow ap s, z⟩
theorem SR0.shown {Ho Hr H Hs : Hp} {σ : St} {ρ : Env} (s : SR0 W Ho Hr H Hs σ ρ) : G W Hr H (plus Hs Ho) ∧ Same Hs (plus Hs Ho) ∧ Same Ho (plus Hs Ho) ∧ ER W (plus Hs Ho) σ (frzAll ρ) := by
  have s1 : Same Hs (plus Hs Ho) := Same.plusl _ _
  have s2 : Same Ho (plus Hs Ho) := Same.plusr (apart_vis s.g)
  refine ⟨s.g.shw s.ap, s1, s2, ⟨by unfold frzAll; rw [List.length_map]; exact s.er.len, fun i d e => ?_⟩⟩
  rcases frzAll_dat e with h | ⟨ds, h, rfl⟩
  · obtain ⟨v, a, c⟩ := s.er.get i d h
    exact ⟨v, a, c.mono s1⟩
  · obtain ⟨p, xs, a, b, z, c⟩ := s.own.get i ds h
    exact ⟨.ref p, a, CRel.of (.lst (SqL.of (s2 _ _ b)) z (c.mono s1))⟩
theorem SR0.back {Ho Hr H Hs H' Hs' : Hp} {σ : St} {ρ : Env} (s : SR0 W Ho Hr H Hs σ ρ) (g : G W Hr H' Hs') (q : Same (plus Hs Ho) Hs') : SR0 W Ho Hr H' (minus Hs' Ho) σ ρ ∧ Same Hs (minus Hs' Ho) ∧ Same Ho Hs' := by
  obtain ⟨_, s1, s2, _⟩ := s.shown
  have so : Same Ho Hs' := s2.trans q
  have sh : Same Hs (minus Hs' Ho) := Same.minus (apart_vis s.g) (s1.trans q)
  exact ⟨s.step (g.unshw s.ap so) sh, sh, so⟩
structure En where
  nx : Env → Prop
  rt : PyData → Prop
  bk : Env → Prop
  ct : Env → Prop
  ro : List PyData → Prop
abbrev Sm := En → Env → Prop
structure Ct (W : Wd) (Hr Hs : Hp) (D : Ends) (E : En) : Prop where
  nx : ∀ σ ρ H' Hs', E.nx ρ → SR W Hr H' Hs' σ ρ → Same Hs Hs' → D.nx σ H'
  rt : ∀ d v H' Hs', E.rt d → G W Hr H' Hs' → Same Hs Hs' → CRel W Hs' v d → D.rt v H'
  bk : ∀ σ ρ H' Hs', E.bk ρ → SR W Hr H' Hs' σ ρ → Same Hs Hs' → D.bk σ H'
  ct : ∀ σ ρ H' Hs', E.ct ρ → SR W Hr H' Hs' σ ρ → Same Hs Hs' → D.ct σ H'
  ro : ∀ ds p vs H' Hs', E.ro ds → Hr p = none → G W (upd Hr p (.lst vs)) H' Hs' → Same Hs Hs' → vs.length ≤ sizeLine → DvAll W.K Hs' vs ds → D.rt (.ref p) H'
theorem Ct.mono {Hr Hs Hs1 : Hp} {D : Ends} {E : En} (s : Same Hs Hs1) (c : Ct W Hr Hs D E) : Ct W Hr Hs1 D E :=
  ⟨fun σ ρ H' Hs' e r q => c.nx σ ρ H' Hs' e r (s.trans q), fun d v H' Hs' e r q => c.rt d v H' Hs' e r (s.trans q), fun σ ρ H' Hs' e r q => c.bk σ ρ H' Hs' e r (s.trans q), fun σ ρ H' Hs' e r q => c.ct σ ρ H' Hs' e r (s.trans q), fun ds p vs H' Hs' e hp r q => c.ro ds p vs H' Hs' e hp r (s.trans q)⟩
def RS (W : Wd) (t : TS) (f : Sm) : Prop := ∀ D σ H Hs Hr ρ E, SR W Hr H Hs σ ρ → f E ρ → Ct W Hr Hs D E → t D σ H
def sNext : Sm := fun E ρ => E.nx ρ
def sBreak : Sm := fun E ρ => E.bk ρ
def sCont : Sm := fun E ρ => E.ct ρ
def sNever : Sm := fun _ _ => False
def sSeq (f g : Sm) : Sm := fun E ρ => f { E with nx := g E } ρ
theorem rs_next : RS W tNext sNext := fun D σ H Hs Hr ρ E s h c => c.nx σ ρ H Hs h s (Same.refl _)
theorem rs_seq {t u : TS} {f g : Sm} (h1 : RS W t f) (h2 : RS W u g) : RS W (tSeq t u) (sSeq f g) := fun D σ H Hs Hr ρ E s h c =>
  h1 { D with nx := u D } σ H Hs Hr ρ { E with nx := g E } s h ⟨fun σ ρ H' Hs' e r q => h2 D σ H' Hs' Hr ρ E r e (c.mono q), c.rt, c.bk, c.ct, c.ro⟩
def sRet (fe : Env → Pp PyData) : Sm := fun E ρ => fe (frzAll ρ) E.rt
theorem rs_ret {te : TE} {fe : Env → Pp PyData} (he : RE W te fe) : RS W (tRet te) (sRet fe) := fun D σ H Hs Hr ρ E s h c => by
  obtain ⟨Ho, s⟩ := s
  obtain ⟨g, s1, _, er⟩ := s.shown
  exact he σ H _ Hr _ _ _ g er h fun d v H' Hs' q g' s' c' => c.rt d v H' Hs' q g' (s1.trans s') c'
def sRetN : Sm := fun E _ => E.rt .none
def sIf (fc : Env → Pp Bool) (f g : Sm) : Sm := fun E ρ => fc (frzAll ρ) fun b => if b = true then f E ρ else g E ρ
theorem rs_if {tc : TT} {fc : Env → Pp Bool} {t u : TS} {f g : Sm} (hc : RT W tc fc) (h1 : RS W t f) (h2 : RS W u g) : RS W (tIfS tc t u) (sIf fc f g) := fun D σ H Hs Hr ρ E s h c => by
  obtain ⟨Ho, s⟩ := s
  obtain ⟨g0, s1, s2, er⟩ := s.shown
  refine hc σ H _ Hr _ _ _ g0 er h fun b H' Hs' q g' s' => ?_
  obtain ⟨s3, s4, _⟩ := s.back g' s'
  cases b with
  | true => rw [if_pos rfl] at q ⊢; exact h1 D σ H' _ Hr ρ E ⟨Ho, s3⟩ q (c.mono s4)
  | false => rw [if_neg Bool.false_ne_true] at q ⊢; exact h2 D σ H' _ Hr ρ E ⟨Ho, s3⟩ q (c.mono s4)
def sAsg (fe : Env → Pp PyData) (fg : PyData → Env → Pp Env) : Sm := fun E ρ => fe ρ fun d => fg d ρ E.nx
theorem rs_asg {te : TE} {fe : Env → Pp PyData} {g : TG} {is : List Nat} {fg : PyData → Env → Pp Env} (he : RE W te fe) (hg : RG W g is fg) : RS W (tAsg te g) (sAsg fe fg) := fun D σ H Hs Hr ρ E s h c => by
  obtain ⟨Ho, s⟩ := s
  refine he σ H Hs _ ρ _ _ s.g s.er h fun d v H' Hs' q g' s' c' => ?_
  refine hg v d σ H' Hs' _ ρ _ _ g' c' q fun σ' ρ' st q' => ?_
  exact c.nx σ' ρ' H' Hs' q' ⟨Ho, (s.step g' s').sets st⟩ s'
def sAsgS (fe : Env → Pp PyData) (fg : PyData → Env → Pp Env) : Sm := fun E ρ => fe (frzAll ρ) fun d => noList d = true ∧ fg d ρ E.nx
def sDrop (fe : Env → Pp PyData) : Sm := fun E ρ => fe ρ fun _ => E.nx ρ
def sOwn (ff : Env → Pp (List PyData)) (i : Nat) : Sm := fun E ρ => ff ρ fun ds => E.nx (ρ.set i (some (.own ds)))
theorem upd_plus {Ho Hr : Hp} {p : Addr} {o : HO} : upd (plus Ho Hr) p o = plus (upd Ho p o) Hr := by
  funext a
  by_cases e : a = p
  · subst e; rw [upd_same, plus_l upd_same]
  · rw [upd_ne e]
    unfold plus
    rw [upd_ne e]
theorem OR.new {Ho Hs : Hp} {σ : St} {ρ : Env} {i : Nat} {p : Addr} {xs : List V} {ds : List PyData} (hl : ρ.length ≤ σ.length) (h : OR W Ho Hs σ ρ) (hp : Ho p = none) (z : xs.length ≤ sizeLine) (a : DvAll W.K Hs xs ds) :
    OR W (upd Ho p (.lst xs)) Hs (σ.set i (some (.ref p))) (ρ.set i (some (.own ds))) := by
  have key : ∀ {j : Nat} {es : List PyData}, (ρ.set i (some (.own ds)))[j]? = some (some (.own es)) → (i = j ∧ i < ρ.length ∧ es = ds) ∨ (i ≠ j ∧ ρ[j]? = some (some (.own es))) := fun {j es} e => by
    by_cases hj : i = j
    · subst hj
      by_cases hi : i < ρ.length
      · rw [List.getElem?_set_self hi] at e; cases e; exact .inl ⟨rfl, hi, rfl⟩
      · rw [List.getElem?_eq_none (by simpa using hi)] at e; cases e
    · rw [List.getElem?_set_ne hj] at e; exact .inr ⟨hj, e⟩
  have pn : ∀ {j : Nat} {es : List PyData}, ρ[j]? = some (some (.own es)) → σ[j]? ≠ some (some (.ref p)) := fun {j es} e q => by
    obtain ⟨p', ys, a', b', _, _⟩ := h.get j es e
    rw [q] at a'
    cases a'
    rw [hp] at b'
    cases b'
  refine ⟨fun b o e => ?_, fun j es e => ?_, fun j k es fs q e1 e2 q1 q2 => ?_⟩
  · by_cases hb : b = p
    · subst hb; rw [upd_same] at e; cases e; exact ⟨xs, rfl⟩
    · rw [upd_ne hb] at e; exact h.lst b o e
  · rcases key e with ⟨rfl, hi, rfl⟩ | ⟨hj, e⟩
    · exact ⟨p, xs, by rw [List.getElem?_set_self (by omega)], upd_same, z, a⟩
    · obtain ⟨p', ys, a', b', c', d'⟩ := h.get j es e
      exact ⟨p', ys, by rw [List.getElem?_set_ne hj]; exact a', by rw [upd_ne (by rintro rfl; rw [hp] at b'; cases b')]; exact b', c', d'⟩
  · rcases key e1 with ⟨rfl, hi, rfl⟩ | ⟨hj, e1⟩
    · rcases key e2 with ⟨rfl, _, _⟩ | ⟨hk, e2⟩
      · rfl
      · rw [List.getElem?_set_self (by omega)] at q1
        cases q1
        rw [List.getElem?_set_ne hk] at q2
        exact absurd q2 (pn e2)
    · rw [List.getElem?_set_ne hj] at q1
      rcases key e2 with ⟨rfl, hi, _⟩ | ⟨hk, e2⟩
      · rw [List.getElem?_set_self (by omega)] at q2
        cases q2
        exact absurd q1 (pn e1)
      · rw [List.getElem?_set_ne hk] at q2
        exact h.one j k es fs q e1 e2 q1 q2
theorem ER.unset {Hs : Hp} {σ : St} {ρ : Env} {i : Nat} {v : V} {ds : List PyData} (er : ER W Hs σ ρ) : ER W Hs (σ.set i (some v)) (ρ.set i (some (.own ds))) :=
  ⟨by simpa using er.len, fun j d e => by
    have e := datAt_some e
    by_cases hj : i = j
    · subst hj
      by_cases hi : i < ρ.length
      · rw [List.getElem?_set_self hi] at e; cases e
      · rw [List.getElem?_eq_none (by simpa using hi)] at e; cases e
    · rw [List.getElem?_set_ne hj] at e
      obtain ⟨u, h1, h2⟩ := er.get j d (datAt_of e)
      exact ⟨u, by rw [List.getElem?_set_ne hj]; exact h1, h2⟩⟩
theorem plus_none {Ho Hr : Hp} {p : Addr} (h : plus Ho Hr p = none) : Ho p = none ∧ Hr p = none := by
  unfold plus at h
  split at h
  · cases h
  · rename_i e; exact ⟨e, h⟩
theorem rs_own {te : TE} {ff : Env → Pp (List PyData)} (he : RF W te ff) (i : Nat) : RS W (tAsg te (gName i)) (sOwn ff i) := fun D σ H Hs Hr ρ E s h c => by
  obtain ⟨Ho, s⟩ := s
  refine he σ H Hs _ ρ _ _ s.g s.er h fun ds p vs H' Hs' q hp g' s' z a => ?_
  obtain ⟨ho, hr⟩ := plus_none hp
  rw [upd_plus] at g'
  refine c.nx _ _ H' Hs' q ⟨upd Ho p (.lst vs), ⟨fun a => ?_, g', (s.er.mono s').unset, (s.own.mono s').new s.er.len ho z a⟩⟩ s'
  by_cases e : a = p
  · subst e; exact .inr hr
  · rw [upd_ne e]; exact s.ap a
theorem SR0.put {Ho Hr H Hs : Hp} {σ : St} {ρ : Env} {i : Nat} {ds es : List PyData} {p : Addr} {xs ys : List V} (s : SR0 W Ho Hr H Hs σ ρ) (hi : ρ[i]? = some (some (.own ds))) (hv : σ[i]? = some (some (.ref p))) (hp : Ho p = some (.lst xs))
    (z : ys.length ≤ sizeLine) (a : DvAll W.K Hs ys es) : SR0 W (upd Ho p (.lst ys)) Hr (upd H p (.lst ys)) Hs σ (ρ.set i (some (.own es))) := by
  have il : i < ρ.length := (List.getElem?_eq_some_iff.mp hi).1
  have hrp : Hr p = none := by
    rcases s.ap p with h | h
    · rw [hp] at h; cases h
    · exact h
  have g' := s.g.putr (p := p) (o := .lst ys) (plus_l hp)
  rw [upd_plus] at g'
  have key : ∀ {j : Nat} {fs : List PyData}, (ρ.set i (some (.own es)))[j]? = some (some (.own fs)) → (i = j ∧ fs = es) ∨ (i ≠ j ∧ ρ[j]? = some (some (.own fs))) := fun {j fs} e => by
    by_cases hj : i = j
    · subst hj
      rw [List.getElem?_set_self il] at e; cases e; exact .inl ⟨rfl, rfl⟩
    · rw [List.getElem?_set_ne hj] at e; exact .inr ⟨hj, e⟩
  have ownAt : ∀ {j : Nat} {fs : List PyData}, (ρ.set i (some (.own es)))[j]? = some (some (.own fs)) → ∃ gs, ρ[j]? = some (some (.own gs)) := fun {j fs} e => by
    rcases key e with ⟨rfl, _⟩ | ⟨_, e⟩
    · exact ⟨ds, hi⟩
    · exact ⟨fs, e⟩
  refine ⟨fun b => ?_, g', ⟨by rw [List.length_set]; exact s.er.len, fun j d e => ?_⟩, ⟨fun b o e => ?_, fun j fs e => ?_, fun j k fs gs q e1 e2 q1 q2 => ?_⟩⟩
  · by_cases e : b = p
    · subst e; exact .inr hrp
    · rw [upd_ne e]; exact s.ap b
  · have e := datAt_some e
    by_cases hj : i = j
    · subst hj; rw [List.getElem?_set_self il] at e; cases e
    · rw [List.getElem?_set_ne hj] at e; exact s.er.get j d (datAt_of e)
  · by_cases hb : b = p
    · subst hb; rw [upd_same] at e; cases e; exact ⟨ys, rfl⟩
    · rw [upd_ne hb] at e; exact s.own.lst b o e
  · rcases key e with ⟨rfl, rfl⟩ | ⟨hj, e⟩
    · exact ⟨p, ys, hv, upd_same, z, a⟩
    · obtain ⟨p', zs, a', b', c', d'⟩ := s.own.get j fs e
      have : p' ≠ p := by
        rintro rfl
        exact hj (s.own.one i j ds fs p' hi e hv a')
      exact ⟨p', zs, a', by rw [upd_ne this]; exact b', c', d'⟩
  · obtain ⟨g1, e1⟩ := ownAt e1
    obtain ⟨g2, e2⟩ := ownAt e2
    exact s.own.one j k g1 g2 q e1 e2 q1 q2
def sApp (i : Nat) (fe : Env → Pp PyData) : Sm := fun E ρ => ∃ ds, ρ[i]? = some (some (.own ds)) ∧ fe ρ fun d => (noPot d = true ∧ ds.length < sizeLine) ∧ E.nx (ρ.set i (some (.own (ds ++ [d]))))
theorem rs_app {te : TE} {fe : Env → Pp PyData} (i : Nat) (he : RE W te fe) : RS W (tDrop (tBM W.K "list" rAppend (tVar i) (tCons te tNil))) (sApp i fe) := fun D σ H Hs Hr ρ E s h c => by
  obtain ⟨Ho, s⟩ := s
  obtain ⟨ds, hi, h⟩ := h
  obtain ⟨p, xs, hv, hp, hz, ha⟩ := s.own.get i ds hi
  have hH : ∀ {H' Hs' : Hp}, G W (plus Ho Hr) H' Hs' → H' p = some (.lst xs) := fun g => g.visr _ _ (plus_l hp)
  refine ⟨_, hv, .inl ⟨rfl, xs, SqL.of (hH s.g)⟩, ?_⟩
  refine he σ H Hs _ ρ _ _ s.g s.er h fun d v H' Hs' q g' s' c' => ?_
  obtain ⟨⟨np, hlt⟩, q⟩ := q
  refine ⟨p, xs, v, rfl, rfl, hH g', by rw [ha.length]; exact hlt, ?_⟩
  refine c.nx σ _ _ Hs' q ⟨_, (s.step g' s').put (ys := xs ++ [v]) hi hv hp ?_ ?_⟩ s'
  · rw [List.length_append, List.length_singleton, ha.length]; omega
  · exact (ha.mono s').append (.cons (c'.dv np) .nil)
def sAppS (i : Nat) (fe : Env → Pp PyData) : Sm := fun E ρ => ∃ ds, ρ[i]? = some (some (.own ds)) ∧ fe (frzAll ρ) fun d => (noList d = true ∧ ds.length < sizeLine) ∧ E.nx (ρ.set i (some (.own (ds ++ [d]))))
def frz (i : Nat) (ρ : Env) : Env := match ρ[i]? with
  | some (some (.own ds)) => ρ.set i (some (.dat (.list ds)))
  | _ => ρ
def sFrz (i : Nat) (f : Sm) : Sm := fun E ρ => f E (frz i ρ)
theorem SR0.frz {Ho Hr H Hs : Hp} {σ : St} {ρ : Env} (i : Nat) (s : SR0 W Ho Hr H Hs σ ρ) : ∃ Hs', SR W Hr H Hs' σ (DL.frz i ρ) ∧ Same Hs Hs' := by
  unfold DL.frz
  split
  · rename_i ds hi
    obtain ⟨p, xs, hv, hp, hz, ha⟩ := s.own.get i ds hi
    have il : i < ρ.length := (List.getElem?_eq_some_iff.mp hi).1
    have hsp : Hs p = none := s.g.rnew (plus_l hp)
    have hrp : Hr p = none := by
      rcases s.ap p with h | h
      · rw [hp] at h; cases h
      · exact h
    let Ho' : Hp := fun a => if a = p then none else Ho a
    have e' : plus Ho Hr = upd (plus Ho' Hr) p (.lst xs) := by
      funext a
      by_cases e : a = p
      · subst e; rw [upd_same, plus_l hp]
      · rw [upd_ne e]; unfold plus; simp only [Ho', if_neg e]
    have np : plus Ho' Hr p = none := by
      rw [plus_r (by simp [Ho'])]; exact hrp
    have g1 : G W (plus Ho' Hr) H (upd Hs p (.lst xs)) := by
      have := s.g
      rw [e'] at this
      exact this.pub np
    have sm : Same Hs (upd Hs p (.lst xs)) := Same.new hsp
    have key : ∀ {j : Nat} {es : List PyData}, (ρ.set i (some (.dat (.list ds))))[j]? = some (some (.own es)) → i ≠ j ∧ ρ[j]? = some (some (.own es)) := fun {j es} e => by
      by_cases hj : i = j
      · subst hj
        rw [List.getElem?_set_self il] at e; cases e
      · rw [List.getElem?_set_ne hj] at e; exact ⟨hj, e⟩
    refine ⟨upd Hs p (.lst xs), ⟨Ho', ⟨fun a => ?_, g1, ⟨by rw [List.length_set]; exact s.er.len, fun j d e => ?_⟩, ⟨fun b o e => ?_, fun j es e => ?_, fun j k es fs q e1 e2 q1 q2 => ?_⟩⟩⟩, sm⟩
    · by_cases e : a = p
      · exact .inl (by simp [Ho', e])
      · rcases s.ap a with h | h
        · exact .inl (by simp [Ho', h])
        · exact .inr h
    · have e := datAt_some e
      by_cases hj : i = j
      · subst hj
        rw [List.getElem?_set_self il] at e
        cases e
        exact ⟨.ref p, hv, CRel.of (.lst (SqL.of upd_same) hz (ha.mono sm))⟩
      · rw [List.getElem?_set_ne hj] at e
        obtain ⟨v, a, b⟩ := s.er.get j d (datAt_of e)
        exact ⟨v, a, b.mono sm⟩
    · have : Ho b = some o := by
        by_cases hb : b = p
        · simp [Ho', hb] at e
        · simpa [Ho', hb] using e
      exact s.own.lst b o this
    · obtain ⟨hj, e⟩ := key e
      obtain ⟨p', ys, a', b', c', d'⟩ := s.own.get j es e
      have hne : p' ≠ p := by rintro rfl; exact hj (s.own.one i j ds es p' hi e hv a')
      exact ⟨p', ys, a', by simpa [Ho', hne] using b', c', d'.mono sm⟩
    · obtain ⟨_, e1⟩ := key e1
      obtain ⟨_, e2⟩ := key e2
      exact s.own.one j k es fs q e1 e2 q1 q2
  · exact ⟨Hs, ⟨Ho, s⟩, Same.refl _⟩
def sRetF (ff : Env → Pp (List PyData)) : Sm := fun E ρ => ff (frzAll ρ) E.ro
theorem rs_retF {te : TE} {ff : Env → Pp (List PyData)} (he : RF W te ff) : RS W (tRet te) (sRetF ff) := fun D σ H Hs Hr ρ E s h c => by
  obtain ⟨Ho, s⟩ := s
  obtain ⟨g, s1, _, er⟩ := s.shown
  exact he σ H _ Hr _ _ _ g er h fun ds p vs H' Hs' q hp g' s' z a => c.ro ds p vs H' Hs' q hp g' (s1.trans s') z a
def sRetO (i : Nat) : Sm := fun E ρ => ∃ ds, ρ[i]? = some (some (.own ds)) ∧ E.ro ds
theorem rs_retO (i : Nat) : RS W (tRet (tVar i)) (sRetO i) := fun D σ H Hs Hr ρ E s h c => by
  obtain ⟨Ho, s⟩ := s
  obtain ⟨ds, hi, h⟩ := h
  obtain ⟨p, xs, hv, hp, hz, ha⟩ := s.own.get i ds hi
  refine ⟨_, hv, ?_⟩
  have hrp : Hr p = none := by
    rcases s.ap p with h | h
    · rw [hp] at h; cases h
    · exact h
  let Ho' : Hp := fun a => if a = p then none else Ho a
  have ap' : Apart Ho' (upd Hr p (.lst xs)) := fun a => by
    by_cases e : a = p
    · exact .inl (by simp [Ho', e])
    · rcases s.ap a with h | h
      · exact .inl (by simp [Ho', h])
      · exact .inr (by rw [upd_ne e]; exact h)
  have e' : plus Ho Hr = plus Ho' (upd Hr p (.lst xs)) := by
    funext a
    by_cases e : a = p
    · subst e; rw [plus_l hp, plus_r (by simp [Ho']), upd_same]
    · unfold plus; simp only [Ho', if_neg e, upd_ne e]
  have g1 : G W (plus Ho' (upd Hr p (.lst xs))) H Hs := e' ▸ s.g
  have s1 : Same Hs (plus Hs Ho') := Same.plusl _ _
  exact c.ro ds p xs H _ h hrp (g1.shw ap') s1 hz (ha.mono s1)
def sClr (i : Nat) : Sm := fun E ρ => ∃ ds, ρ[i]? = some (some (.own ds)) ∧ E.nx (ρ.set i (some (.own [])))
theorem rs_clr (i : Nat) : RS W (tDrop (tBM0 W.K "list" rClear (tVar i))) (sClr i) := fun D σ H Hs Hr ρ E s h c => by
  obtain ⟨Ho, s⟩ := s
  obtain ⟨ds, hi, h⟩ := h
  obtain ⟨p, xs, hv, hp, hz, ha⟩ := s.own.get i ds hi
  have hH : H p = some (.lst xs) := s.g.visr _ _ (plus_l hp)
  exact ⟨_, hv, .inl ⟨rfl, xs, SqL.of hH⟩, p, xs, rfl, rfl, hH, c.nx σ _ _ Hs h ⟨_, s.put (ys := []) hi hv hp (Nat.zero_le _) .nil⟩ (Same.refl _)⟩
def forGo (fg : PyData → Env → Pp Env) (fb : Sm) (E : En) : List PyData → Env → Prop
  | [], ρ => E.nx ρ
  | d :: r, ρ => fg d ρ fun ρ' => fb ⟨forGo fg fb E r, E.rt, E.nx, forGo fg fb E r, E.ro⟩ ρ'
def sFor (it : Env → Pp (List PyData)) (fg : PyData → Env → Pp Env) (fb : Sm) : Sm := fun E ρ => it ρ fun ds => forGo fg fb E ds ρ
theorem rs_for {wi : TI} {it : Env → Pp (List PyData)} {g : TG} {is : List Nat} {fg : PyData → Env → Pp Env} {tb : TS} {fb : Sm} (hi : RI W wi it) (hg : RG W g is fg) (hb : RS W tb fb) : RS W (tFor wi g tb) (sFor it fg fb) := fun D σ H Hs Hr ρ E s h c => by
  obtain ⟨Ho0, s⟩ := s
  refine hi σ H Hs _ ρ _ _ s.g s.er h fun ds I H1 Hs1 h1 g1 s1 ok => ?_
  refine ⟨fun i m σ H => m = ds.length - i ∧ i ≤ ds.length ∧ ∃ ρ Hs2, SR W Hr H Hs2 σ ρ ∧ Same Hs1 Hs2 ∧ forGo fg fb E (ds.drop i) ρ, ⟨_, rfl, Nat.zero_le _, ρ, Hs1, ⟨Ho0, s.step g1 s1⟩, Same.refl _, h1⟩, ?_⟩
  rintro i m σ' H' ⟨rfl, hile, ρ', Hs2, ⟨Ho, s2⟩, q2, hgo⟩
  by_cases hlt : i < ds.length
  · obtain ⟨d, hd⟩ : ∃ d, ds[i]? = some d := ⟨ds[i], List.getElem?_eq_getElem hlt⟩
    refine .inr ⟨ok.go i _ H' Hs2 hlt s2.g q2, fun σ H => ds.length - (i + 1) = ds.length - (i + 1) ∧ i + 1 ≤ ds.length ∧ ∃ ρ Hs2, SR W Hr H Hs2 σ ρ ∧ Same Hs1 Hs2 ∧ forGo fg fb E (ds.drop (i + 1)) ρ, fun σ'' H'' z => ⟨ds.length - (i + 1), by omega, z⟩, fun x Hx y => ?_⟩
    obtain ⟨Hs3, d', g3, s3, hd', c3⟩ := ok.yld i _ H' Hs2 x Hx s2.g q2 hlt y
    rw [hd] at hd'
    cases hd'
    rw [drop_cons hd] at hgo
    refine hg x d σ' Hx Hs3 _ ρ' _ _ g3 c3 hgo fun σ3 ρ3 st hgo2 => ?_
    have q3 : Same Hs Hs3 := (s1.trans q2).trans s3
    refine hb _ σ3 Hx Hs3 Hr ρ3 _ ⟨Ho, (s2.step g3 s3).sets st⟩ hgo2 ⟨fun σ4 ρ4 H4 Hs4 e r q => ?_, fun d v H4 Hs4 e r q => c.rt d v H4 Hs4 e r (q3.trans q), fun σ4 ρ4 H4 Hs4 e r q => c.nx σ4 ρ4 H4 Hs4 e r (q3.trans q), fun σ4 ρ4 H4 Hs4 e r q => ?_, fun ds p vs H' Hs' e hp r q => c.ro ds p vs H' Hs' e hp r (q3.trans q)⟩
    · exact ⟨rfl, hlt, ρ4, Hs4, r, (q2.trans s3).trans q, e⟩
    · exact ⟨rfl, hlt, ρ4, Hs4, r, (q2.trans s3).trans q, e⟩
  · have e : ds.drop i = [] := List.drop_eq_nil_of_le (by omega)
    rw [e] at hgo
    exact .inl ⟨ok.stop i _ H' Hs2 (by omega) s2.g q2, c.nx σ' ρ' H' Hs2 hgo ⟨Ho, s2⟩ (s1.trans q2)⟩
def whGo (fc : Env → Pp Bool) (fb : Sm) (E : En) : Nat → Env → Prop
  | 0, _ => False
  | n + 1, ρ => fc (frzAll ρ) fun b => if b = true then fb ⟨whGo fc fb E n, E.rt, E.nx, whGo fc fb E n, E.ro⟩ ρ else E.nx ρ
def sWhile (fc : Env → Pp Bool) (fb : Sm) : Sm := fun E ρ => ∃ n, whGo fc fb E n ρ
def env0 (n : Nat) (ds : List PyData) : Env := ds.map (fun d => some (.dat d)) ++ List.replicate n none
def fnD (n : Nat) (f : Sm) : List PyData → Pp PyData := fun ds Q => f ⟨fun _ => Q .none, Q, fun _ => False, fun _ => False, fun _ => False⟩ (env0 n ds)
theorem env0_er {Hs : Hp} {N : List Str} {vs : List V} {ds : List PyData} (c : CAll W Hs vs ds) (hn : ds.length ≤ N.length) : ER W Hs (L2.start N vs) (env0 (N.length - ds.length) ds) := by
  have hl := c.length
  refine ⟨by unfold L2.start env0; simp [hl], fun i d e => ?_⟩
  have e := datAt_some e
  unfold env0 at e
  have hi : i < ds.length := by
    by_cases hi : i < ds.length
    · exact hi
    · rw [List.getElem?_append_right (by simpa using hi), List.getElem?_replicate] at e
      split at e <;> cases e
  rw [List.getElem?_append_left (by simpa using hi), List.getElem?_map] at e
  have : ∀ {vs : List V} {ds : List PyData} {i : Nat} {d : PyData}, CAll W Hs vs ds → ds[i]? = some d → ∃ v, vs[i]? = some v ∧ CRel W Hs v d := by
    intro vs ds i d c
    induction c generalizing i with
    | nil => intro e; simp at e
    | cons a b ih =>
      intro e
      cases i with
      | zero => simp at e; subst e; exact ⟨_, rfl, a⟩
      | succ i => simpa using ih (by simpa using e)
  cases q : ds[i]? with
  | none => rw [q] at e; cases e
  | some x =>
    rw [q] at e
    cases e
    obtain ⟨v, h1, h2⟩ := this c q
    refine ⟨v, ?_, h2⟩
    unfold L2.start
    rw [List.getElem?_append_left (by rw [List.length_map, hl]; exact hi), List.getElem?_map, h1]
    rfl
theorem env0_own {n : Nat} {ds : List PyData} {i : Nat} {es : List PyData} : (env0 n ds)[i]? ≠ some (some (.own es)) := fun e => by
  unfold env0 at e
  by_cases hi : i < ds.length
  · rw [List.getElem?_append_left (by simpa using hi), List.getElem?_map] at e
    cases q : ds[i]? with
    | none => rw [q] at e; cases e
    | some x => rw [q] at e; cases e
  · rw [List.getElem?_append_right (by simpa using hi), List.getElem?_replicate] at e
    split at e <;> cases e
theorem sr_start {Hr H Hs : Hp} {N : List Str} {vs : List V} {ds : List PyData} (g : G W Hr H Hs) (c : CAll W Hs vs ds) (hn : ds.length ≤ N.length) : SR W Hr H Hs (L2.start N vs) (env0 (N.length - ds.length) ds) := by
  refine ⟨e0, ⟨fun a => .inl rfl, ?_, env0_er c hn, ⟨fun a o e => (nomatch e), fun i es e => absurd e env0_own, fun i j es fs p e => absurd e env0_own⟩⟩⟩
  have : plus e0 Hr = Hr := by funext a; rfl
  rw [this]
  exact g
end
end DL
set_option Elab.async false
set_option linter.all false
set_option maxRecDepth 100000
set_option maxHeartbeats 400000
namespace DL
open PySem PySem.Spec PyProof.Rows L2
structure Kx where
  P : Program
  w : World
  K : PySem.W.Frag
  mg : Str → Option Value
  base : Heap
  k : Nat
  N : List Str
  nm : List (Str × NameKind)
  fc : Str → Bool
  fam : Addr → (Hp → Prop) → Prop
abbrev Kx.W (κ : Kx) (d : Addr) (Pt : Hp → Prop) : Wd := ⟨κ.K, d, Pt⟩
structure Cn (κ : Kx) (X : Cx) : Prop where
  prog : X.prog = κ.P
  wd : X.w = κ.w
  kk : X.K = κ.K
  mg : X.mg = κ.mg
  base : X.base = κ.base
  room : Room κ.k X.A
  nn : X.N = κ.N
  names : X.env.scope.names = κ.nm
  kind : X.env.scope.kind = .function
  fn : ∀ x, κ.fc x = true → X.fn x = true
  nd : κ.N.Nodup
  calm : X.calm = true
  xe : X.xe = fun _ _ => False
def relabN (nm names : List (Str × NameKind)) : List (Str × NameKind) := names.map fun (n, k) => if (k == .free && nm.lookup n == some .cell) then (n, .cell) else (n, k)
abbrev Kx.blk (κ : Kx) (scope : Scope) : Kx := { κ with nm := relabN κ.nm scope.names, fc := fun x => scope.names.lookup x == some .cell }
theorem Cn.blk {κ : Kx} {X : Cx} (h : Cn κ X) {scope : Scope} (hk : scope.kind = .function) (s : Shared) (H : Hp) (C : Addr) (cl : List (Str × Addr)) (fp : List Addr) : Cn (κ.blk scope) (X.blk s H scope (compEnvC scope cl C X.env) fp) := by
  refine ⟨h.prog, h.wd, h.kk, h.mg, h.base, h.room, h.nn, ?_, hk, fun x e => e, h.nd, h.calm, rfl⟩
  show (relabel scope X.env).names = relabN κ.nm scope.names
  unfold relabel relabN
  simp only [Env.kindOf, h.names, h.kind]
  refine congrArg (fun f => scope.names.map f) ?_
  funext ⟨n, k⟩
  cases k <;> rfl
def XE (κ : Kx) (e : Expr) (f : Env → Pp PyData) : Prop := ∃ t, (∀ X, Cn κ X → PE X e t) ∧ ∀ d Pt, κ.fam d Pt → RE (κ.W d Pt) t f
def XF (κ : Kx) (e : Expr) (f : Env → Pp (List PyData)) : Prop := ∃ t, (∀ X, Cn κ X → PE X e t) ∧ ∀ d Pt, κ.fam d Pt → RF (κ.W d Pt) t f
def XT (κ : Kx) (e : Expr) (f : Env → Pp Bool) : Prop := ∃ t, (∀ X, Cn κ X → PT X e t) ∧ ∀ d Pt, κ.fam d Pt → RT (κ.W d Pt) t f
def XW (κ : Kx) (e : Expr) (f : Env → Pp Bool) : Prop := ∃ t, (∀ X, Cn κ X → PW X e t) ∧ ∀ d Pt, κ.fam d Pt → RT (κ.W d Pt) t f
def XTs (κ : Kx) (es : List Expr) (f : Env → Pp Bool) : Prop := ∃ t, (∀ X, Cn κ X → PTs X es t) ∧ ∀ d Pt, κ.fam d Pt → RT (κ.W d Pt) t f
def XA (κ : Kx) (es : List Expr) (f : Env → Pp (List PyData)) : Prop := ∃ t, (∀ X, Cn κ X → PA X es t) ∧ ∀ d Pt, κ.fam d Pt → RA (κ.W d Pt) t f
def XG (κ : Kx) (e : Expr) (is : List Nat) (f : PyData → Env → Pp Env) : Prop := ∃ t, (∀ X, Cn κ X → PG X e t) ∧ ∀ d Pt, κ.fam d Pt → RG (κ.W d Pt) t is f
def XGs (κ : Kx) (e : List Expr) (n : Nat) (is : List Nat) (f : List PyData → Env → Pp Env) : Prop := e.length = n ∧ ∃ t, (∀ X, Cn κ X → PGs X e t) ∧ ∀ d Pt, κ.fam d Pt → RGs (κ.W d Pt) t is f
def XI (κ : Kx) (tg e : Expr) (f : Env → Pp (List PyData)) : Prop := ∃ t, (∀ X, Cn κ X → PI X tg e t) ∧ ∀ d Pt, κ.fam d Pt → RI (κ.W d Pt) t f
def XS (κ : Kx) (s : Stmt) (f : Sm) : Prop := ∃ t, (∀ X, Cn κ X → PS X s t) ∧ ∀ d Pt, κ.fam d Pt → RS (κ.W d Pt) t f
def XSs (κ : Kx) (s : List Stmt) (f : Sm) : Prop := ∃ t, (∀ X, Cn κ X → PSs X s t) ∧ ∀ d Pt, κ.fam d Pt → RS (κ.W d Pt) t f
section
variable {κ : Kx} {a b c e : Expr} {es : List Expr} {fa fb fc fe : Env → Pp PyData} {pos p p1 p2 : Pos}
theorem vis_of {X : Cx} (h : Cn κ X) {x : Str} (hv : κ.nm.lookup x = some .local ∨ κ.nm.lookup x = some .cell ∨ κ.nm.lookup x = some .free) : Vis X.env.scope x := by unfold Vis; rw [h.names]; exact hv
theorem gl_of {X : Cx} (h : Cn κ X) {x : Str} (hv : κ.nm.lookup x = some .globalImplicit) : Gl X x := by unfold Gl Env.kindOf; rw [h.names]; exact hv
theorem x_var (i : Nat) {x : Str} (hN : κ.N[i]? = some x := by rfl) (hv : κ.nm.lookup x = some .local ∨ κ.nm.lookup x = some .cell ∨ κ.nm.lookup x = some .free := by first | exact .inl rfl | exact .inr (.inl rfl) | exact .inr (.inr rfl))
    (hd : (x == ("__debug__" : Str)) = false := by decide) (hcd : (x == ("__classdict__" : Str)) = false := by decide) : XE κ (.Name x pos) (eVar i) :=
  ⟨_, fun X h => pe_var (by rw [h.nn]; exact hN) (vis_of h hv) hd hcd, fun d Pt hF => re_var i⟩
theorem x_int {i : Int} {j} : XE κ (.Constant (.int i) j pos) (eC (.int i)) := ⟨_, fun X h => pe_int, fun d Pt hF => re_int i⟩
theorem x_bl {i : Bool} {j} : XE κ (.Constant (.bool i) j pos) (eC (.bool i)) := ⟨_, fun X h => pe_bl, fun d Pt hF => re_bl i⟩
theorem XF.x {f : Env → Pp (List PyData)} (h : XF κ e f) : XE κ e (eL f) := let ⟨t, h1, h2⟩ := h; ⟨t, h1, fun d Pt hF => (h2 d Pt hF).re⟩
theorem x_op {op : Operator} {r : R2} {o : PyData → PyData → Option PyData} (ho : ∀ X, Cn κ X → OpR X (binaryOp op) r) (od : ∀ d Pt, OD (κ.W d Pt) r o) (ha : XE κ a fa) (hb : XE κ b fb) : XE κ (.BinOp a op b pos) (eOp o fa fb) :=
  let ⟨_, h1, r1⟩ := ha; let ⟨_, h2, r2⟩ := hb; ⟨_, fun X h => pe_op (ho X h) (h1 X h) (h2 X h), fun d Pt hF => re_op (od d Pt) (r1 d Pt hF) (r2 d Pt hF)⟩
theorem x_add (ha : XE κ a fa) (hb : XE κ b fb) : XE κ (.BinOp a .Add b pos) (eOp dAdd fa fb) := x_op (fun X h => by have := op_addA (X := X); rwa [h.kk] at this) (fun _ _ => od_add) ha hb
theorem x_mul (ha : XE κ a fa) (hb : XE κ b fb) : XE κ (.BinOp a .Mult b pos) (eOp dMul fa fb) := x_op (fun X h => by have := op_mulA (X := X); rwa [h.kk] at this) (fun _ _ => od_mul) ha hb
theorem x_mod (ha : XE κ a fa) (hb : XE κ b fb) : XE κ (.BinOp a .Mod b pos) (eOp dMod fa fb) := x_op (fun X h => op_mod) (fun _ _ => od_mod) ha hb
theorem x_div (ha : XE κ a fa) (hb : XE κ b fb) : XE κ (.BinOp a .FloorDiv b pos) (eOp dDiv fa fb) := x_op (fun X h => op_fdiv) (fun _ _ => od_div) ha hb
theorem x_pow (ha : XE κ a fa) (hb : XE κ b fb) : XE κ (.BinOp a .Pow b pos) (eOp dPow fa fb) := x_op (fun X h => op_pow) (fun _ _ => od_pow) ha hb
theorem x_neg (ha : XE κ a fa) : XE κ (.UnaryOp .USub a pos) (eUn dNeg fa) := let ⟨_, h1, r1⟩ := ha; ⟨_, fun X h => pe_un un_neg (h1 X h), fun d Pt hF => re_un ud_neg (r1 d Pt hF)⟩
theorem x_cmp {op : CmpOp} {r : R2} {o : PyData → PyData → Option PyData} (hm : behindInMarks op b = false) (ho : ∀ X, Cn κ X → OpR X (compareOp op) r) (od : ∀ d Pt, OD (κ.W d Pt) r o) (ha : XE κ a fa) (hb : XE κ b fb) : XE κ (.Compare a [op] [b] pos) (eOp o fa fb) :=
  let ⟨_, h1, r1⟩ := ha; let ⟨_, h2, r2⟩ := hb; ⟨_, fun X h => pe_cmpR (ho X h) (h1 X h) (h2 X h) hm, fun d Pt hF => re_op (od d Pt) (r1 d Pt hF) (r2 d Pt hF)⟩
theorem x_eq (ha : XE κ a fa) (hb : XE κ b fb) : XE κ (.Compare a [.Eq] [b] pos) (eOp dEq fa fb) := x_cmp (nomark _) (fun X h => by have := op_eqD (X := X) h.room.units; rwa [h.kk] at this) (fun _ _ => od_eq) ha hb
def eChain (o o' : PyData → PyData → Option PyData) (fa fb fc : Env → Pp PyData) : Env → Pp PyData := fun ρ => bnd (fa ρ) fun a => bnd (fb ρ) fun b => bnd (ofO (o a b)) fun k => match k with
  | .bool true => bnd (fc ρ) fun c => ofO (o' b c)
  | .bool false => ret (.bool false)
  | _ => fail
theorem x_and {r : List Expr} (ha : XE κ a fa) (hb : XE κ (.BoolOp .And (b :: r) pos) fb) : XE κ (.BoolOp .And (a :: b :: r) pos) (eAnd fa fb) := let ⟨_, h1, r1⟩ := ha; let ⟨_, h2, r2⟩ := hb; ⟨_, fun X h => pe_and (h1 X h) (h2 X h), fun d Pt hF => re_and (r1 d Pt hF) (r2 d Pt hF)⟩
theorem x_one {op} (ha : XE κ a fa) : XE κ (.BoolOp op [a] pos) fa := let ⟨_, h1, r1⟩ := ha; ⟨_, fun X h => pe_one (h1 X h), fun d Pt hF => (r1 d Pt hF)⟩
theorem xt_val (ha : XE κ a fa) (he : ∀ (env : PySem.Env) whole, isTrue a env whole = (do let v ← whole; standAt a.pos; holding [v] (truthy v)) := by intro _ _; rfl) : XT κ a (tBool fa) := let ⟨_, h1, r1⟩ := ha; ⟨_, fun X h => pt_val (h1 X h) (he _), fun d Pt hF => rt_val (r1 d Pt hF)⟩
theorem xt_c {op : CmpOp} {r : R2} {o : PyData → PyData → Option PyData} (hm : behindInMarks op b = false) (ho : ∀ X, Cn κ X → OpR X (compareOp op) r) (od : ∀ d Pt, OD (κ.W d Pt) r o) (ha : XE κ a fa) (hb : XE κ b fb) : XT κ (.Compare a [op] [b] pos) (tBool (eOp o fa fb)) :=
  let ⟨_, h1, r1⟩ := ha; let ⟨_, h2, r2⟩ := hb; ⟨_, fun X h => pt_cmpR (ho X h) (h1 X h) (h2 X h) hm, fun d Pt hF => rt_bool (re_op (od d Pt) (r1 d Pt hF) (r2 d Pt hF))⟩
theorem xt_gt (ha : XE κ a fa) (hb : XE κ b fb) : XT κ (.Compare a [.Gt] [b] pos) (tBool (eOp dGt fa fb)) := xt_c (nomark _) (fun X h => op_gt) (fun _ _ => od_gt) ha hb
theorem xt_ge (ha : XE κ a fa) (hb : XE κ b fb) : XT κ (.Compare a [.GtE] [b] pos) (tBool (eOp dGe fa fb)) := xt_c (nomark _) (fun X h => op_ge) (fun _ _ => od_ge) ha hb
theorem xt_eq (ha : XE κ a fa) (hb : XE κ b fb) : XT κ (.Compare a [.Eq] [b] pos) (tBool (eOp dEq fa fb)) := xt_c (nomark _) (fun X h => by have := op_eqD (X := X) h.room.units; rwa [h.kk] at this) (fun _ _ => od_eq) ha hb
theorem xt_ne (ha : XE κ a fa) (hb : XE κ b fb) : XT κ (.Compare a [.NotEq] [b] pos) (tBool (eOp dNe fa fb)) := xt_c (nomark _) (fun X h => by have := op_neD (X := X) h.room.units; rwa [h.kk] at this) (fun _ _ => od_ne) ha hb
theorem xt_in (ha : XE κ a fa) (hb : XE κ b fb) (hm : behindInMarks .In b = false := by first | rfl | (with_unfolding_all rfl)) : XT κ (.Compare a [.In] [b] pos) (tBool (eOp (dIn false) fa fb)) := xt_c hm (fun X h => by have := op_in_seq (X := X); rwa [h.kk] at this) (fun _ _ => od_in false) ha hb
theorem xt_notIn (ha : XE κ a fa) (hb : XE κ b fb) (hm : behindInMarks .NotIn b = false := by first | rfl | (with_unfolding_all rfl)) : XT κ (.Compare a [.NotIn] [b] pos) (tBool (eOp (dIn true) fa fb)) := xt_c hm (fun X h => by have := op_notIn_seq (X := X); rwa [h.kk] at this) (fun _ _ => od_in true) ha hb
theorem xt_tru (ha : XE κ a fa) (he : ∀ (env : PySem.Env) whole, isTrue a env whole = (do let v ← whole; standAt a.pos; holding [v] (truthy v)) := by intro _ _; rfl) : XT κ a (tTru fa) := let ⟨_, h1, r1⟩ := ha; ⟨_, fun X h => by have := pt_truth (h1 X h) (he _); rw [h.kk] at this; exact this, fun d Pt hF => rt_tru (r1 d Pt hF)⟩
section
variable {f1 f2 : Env → Pp Bool}
theorem xw_and {r : List Expr} (ha : XT κ a f1) (hb : XW κ (.BoolOp .And (b :: r) pos) f2) : XW κ (.BoolOp .And (a :: b :: r) pos) (tAndP f1 f2) := let ⟨_, h1, r1⟩ := ha; let ⟨_, h2, r2⟩ := hb; ⟨_, fun X h => pw_and (h1 X h) (h2 X h), fun d Pt hF => rt_and (r1 d Pt hF) (r2 d Pt hF)⟩
theorem xw_and1 (ha : XT κ a f1) : XW κ (.BoolOp .And [a] pos) f1 := let ⟨_, h1, r1⟩ := ha; ⟨_, fun X h => pw_and1 (h1 X h), fun d Pt hF => (r1 d Pt hF)⟩
theorem xw_or {r : List Expr} (ha : XT κ a f1) (hb : XW κ (.BoolOp .Or (b :: r) pos) f2) : XW κ (.BoolOp .Or (a :: b :: r) pos) (tOrP f1 f2) := let ⟨_, h1, r1⟩ := ha; let ⟨_, h2, r2⟩ := hb; ⟨_, fun X h => pw_or (h1 X h) (h2 X h), fun d Pt hF => rt_or (r1 d Pt hF) (r2 d Pt hF)⟩
theorem xw_or1 (ha : XT κ a f1) : XW κ (.BoolOp .Or [a] pos) f1 := let ⟨_, h1, r1⟩ := ha; ⟨_, fun X h => pw_or1 (h1 X h), fun d Pt hF => (r1 d Pt hF)⟩
theorem xt_w (ha : XW κ a f1) : XT κ a f1 := let ⟨_, h1, r1⟩ := ha; ⟨_, fun X h => (h1 X h).pt, fun d Pt hF => (r1 d Pt hF)⟩
theorem xt_not (ha : XT κ a f1) : XT κ (.UnaryOp .Not a pos) (tNotP f1) := let ⟨_, h1, r1⟩ := ha; ⟨_, fun X h => pt_not (h1 X h), fun d Pt hF => rt_not (r1 d Pt hF)⟩
end
section
variable {fs : Env → Pp (List PyData)}
theorem xa_nil : XA κ [] aNil := ⟨_, fun X h => pa_nil, fun d Pt hF => ra_nil⟩
theorem xa_cons (ha : XE κ a fa) (hr : XA κ es fs) (hs : ∀ env : PySem.Env, starEach (a :: es) env = (false, eval a env) :: starEach es env := by intro _; rfl) : XA κ (a :: es) (aCons fa fs) := let ⟨_, h1, r1⟩ := ha; let ⟨_, h2, r2⟩ := hr; ⟨_, fun X h => pa_cons (h1 X h) (h2 X h) (hs _), fun d Pt hF => ra_cons (r1 d Pt hF) (r2 d Pt hF)⟩
theorem xa_ints {ns : List Int} (h : cInts es = some ns) : XA κ es (aInts ns) := ⟨_, fun X _ => pa_ints h, fun d Pt hF => ra_ints ns⟩
theorem x_tup {x1} (h : XA κ es fs) : XE κ (.Tuple es x1 pos) (eTup fs) := let ⟨_, h1, r1⟩ := h; ⟨_, fun X h => pe_tup (h1 X h), fun d Pt hF => re_tup (r1 d Pt hF)⟩
theorem xf_lst (h : XA κ es fs) : XF κ (.List es pos) (fLst fs) := let ⟨_, h1, r1⟩ := h; ⟨_, fun X h => pe_lst (h1 X h), fun d Pt hF => rf_lst (r1 d Pt hF)⟩
theorem x_ix (ha : XE κ a fa) (hb : XE κ b fb) (hs : PlainIx b := by intro _ _; rfl) : XE κ (.Subscript a b pos) (eOp dIx fa fb) :=
  let ⟨_, h1, r1⟩ := ha; let ⟨_, h2, r2⟩ := hb; ⟨_, fun X h => by have := pe_ix (pos := pos) (ix_seq (X := X)) (h1 X h) (h2 X h) hs; rw [h.kk] at this; exact this, fun d Pt hF => re_op od_ix (r1 d Pt hF) (r2 d Pt hF)⟩
theorem x_cb {id : String} {x : Str} {r : List V → Hp → VK → Prop} {o : List PyData → Option PyData} (hc : ∀ X, Cn κ X → CallR X (.builtin id) r) (cd : ∀ d Pt, CD (κ.W d Pt) r o) (hg : κ.nm.lookup x = some .globalImplicit) (hm : κ.mg x = none) (hv : bootBuiltins x = some (.builtin id)) (ha : XA κ (e :: es) fs)
    (hn : x ≠ "__name__" := by decide) (hdb : (x == ("__debug__" : Str)) = false := by decide) (he : ∀ env : PySem.Env, starEach (e :: es) env = (false, eval e env) :: starEach es env := by intro _; rfl) (hpl : ∀ env : PySem.Env, (backTo pos (starEach es env)).any (·.1) = false := by intro _; rfl) :
    XE κ (.Call (.Name x p) (e :: es) [] pos) (eCB o fs) := let ⟨_, h1, r1⟩ := ha; ⟨_, fun X h => pe_callB (hc X h) (gl_of h hg) (by rw [h.mg]; exact hm) hv (h1 X h) hn hdb (he _) (hpl _), fun d Pt hF => re_cb (cd d Pt) (r1 d Pt hF)⟩
theorem x_cty {T : String} {x : Str} {r : List V → Hp → VK → Prop} {o : List PyData → Option PyData} (hc : ∀ X, Cn κ X → CallR X (.type T) r) (cd : ∀ d Pt, CD (κ.W d Pt) r o) (hg : κ.nm.lookup x = some .globalImplicit) (hm : κ.mg x = none) (hv : bootBuiltins x = some (.type T)) (ha : XA κ (e :: es) fs)
    (hn : x ≠ "__name__" := by decide) (hdb : (x == ("__debug__" : Str)) = false := by decide) (he : ∀ env : PySem.Env, starEach (e :: es) env = (false, eval e env) :: starEach es env := by intro _; rfl) (hpl : ∀ env : PySem.Env, (backTo pos (starEach es env)).any (·.1) = false := by intro _; rfl) :
    XE κ (.Call (.Name x p) (e :: es) [] pos) (eCB o fs) := let ⟨_, h1, r1⟩ := ha; ⟨_, fun X h => pe_callTy (hc X h) (gl_of h hg) (by rw [h.mg]; exact hm) hv (h1 X h) hn hdb (he _) (hpl _), fun d Pt hF => re_cb (cd d Pt) (r1 d Pt hF)⟩
def spX (K : PySem.W.Frag) (fam : Addr → (Hp → Prop) → Prop) (g : List PyData → Pp PyData) : Sp := fun vs H Q E => ∃ d Pt, fam d Pt ∧ spM ⟨K, d, Pt⟩ g vs H Q E
theorem re_callX {K : PySem.W.Frag} {fam : Addr → (Hp → Prop) → Prop} {d : Addr} {Pt : Hp → Prop} (hF : fam d Pt) {g : List PyData → Pp PyData} {t : TA} {fs : Env → Pp (List PyData)} (ha : RA ⟨K, d, Pt⟩ t fs) : RE ⟨K, d, Pt⟩ (tCall (spX K fam g) [] E0 t) (eCall g fs) := fun σ H Hs Hr ρ Q Q0 gg er h k =>
  ha σ H Hs Hr ρ _ _ gg er h fun ds vs H1 Hs1 h1 g1 s1 c1 => by
    rw [List.append_nil]
    exact ⟨d, Pt, hF, Hs1, Hr, ds, Q0, g1, c1, h1, fun d v H' Hs' q g' s' c' => k d v H' Hs' q g' (s1.trans s') c'⟩
def spPF (K : PySem.W.Frag) (g : List PyData → Pp (List PyData)) : Sp := fun vs H Q _ => ∃ Hs Hr ds Q0, J H Hs e0 Hr ∧ DvAll K Hs vs ds ∧ g ds Q0 ∧ ∀ es p ws H' Hs', Q0 es → Hr p = none → J H' Hs' e0 (upd Hr p (.lst ws)) → Same Hs Hs' → ws.length ≤ sizeLine → DvAll K Hs' ws es → Q (.ref p) H'
def gPF (g : List PyData → Pp (List PyData)) : List PyData → Pp (List PyData) := fun ds Q => ds.all noPot = true ∧ g ds Q
def eCallF (g : List PyData → Pp (List PyData)) (fs : Env → Pp (List PyData)) : Env → Pp (List PyData) := fun ρ => bnd (fs ρ) fun ds => g ds
theorem rf_callP {W : Wd} {g : List PyData → Pp (List PyData)} {t : TA} {fs : Env → Pp (List PyData)} (ha : RA W t fs) : RF W (tCall (spPF W.K g) [] E0 t) (eCallF (gPF g) fs) := fun σ H Hs Hr ρ Q Q0 gg er h k =>
  ha σ H Hs Hr ρ _ _ gg er h fun ds vs H1 Hs1 h1 g1 s1 c1 => by
    obtain ⟨Hq, j, hp⟩ := g1
    obtain ⟨n, h1⟩ := h1
    rw [List.append_nil]
    refine ⟨Hs1, plus Hq Hr, ds, Q0, j.hide, c1.dv n, h1, fun es p ws H' Hs' q hn j' s' z a => ?_⟩
    obtain ⟨hq, hr⟩ := plus_none hn
    have e' : upd (plus Hq Hr) p (.lst ws) = plus Hq (upd Hr p (.lst ws)) := by
      funext a
      by_cases e : a = p
      · subst e; rw [upd_same, plus_r hq, upd_same]
      · rw [upd_ne e]; unfold plus; rw [upd_ne e]
    rw [e'] at j'
    have ap : Apart Hq (upd Hr p (.lst ws)) := fun a => by
      by_cases e : a = p
      · subst e; exact .inl hq
      · rw [upd_ne e]; exact j.qr a
    exact k es p ws H' Hs' q hr ⟨Hq, j'.unhide ap, hp⟩ (s1.trans s') z a
structure Callee (P : Program) (w : World) (K : PySem.W.Frag) (mg : Str → Option Value) (base : Heap) (n : Nat) (x : Str) (ps : List Str) (sp : Sp) : Prop where
  ex : ∃ (f : Addr) (fd : FuncData), FnOk P w K mg base CX0 n f fd ps sp ∧ Binds K fd ps [] ∧ PySem.W.keepIn K (.ref f) = true ∧ mg x = some (.ref f)
theorem Cn.fnok {X : Cx} (h : Cn κ X) {n : Nat} {f : Addr} {fd : FuncData} {ps : List Str} {sp : Sp} (F : FnOk κ.P κ.w κ.K κ.mg κ.base CX0 n f fd ps sp) : FnOk X.prog X.w X.K X.mg X.base CX0 n f fd ps sp := by
  rw [h.prog, h.wd, h.kk, h.mg, h.base]; exact F
theorem x_call0 {n : Nat} {x : Str} {ps : List Str} {sp : Sp} {t : TA} (hk : n ≤ κ.k) (C : Callee κ.P κ.w κ.K κ.mg κ.base n x ps sp) (hg : κ.nm.lookup x = some .globalImplicit) (ha : ∀ X, Cn κ X → PA X (e :: es) t)
    (hdb : (x == ("__debug__" : Str)) = false) (he : ∀ env : PySem.Env, starEach (e :: es) env = (false, eval e env) :: starEach es env) (hpl : ∀ env : PySem.Env, (backTo pos (starEach es env)).any (·.1) = false) : ∀ X, Cn κ X → PE X (.Call (.Name x p) (e :: es) [] pos) (tCall sp [] E0 t) := by
  obtain ⟨f, fd, F, b, kp, hm⟩ := C.ex
  intro X h
  exact pe_call (h.fnok F) (h.room.mono hk) (gl_of h hg) (by rw [h.mg]; exact hm) (by rw [h.kk]; exact kp) (by rw [h.kk]; exact b) .nil pass0 (ha X h) hdb (he _) (hpl _)
theorem x_callP {n : Nat} {x : Str} {ps : List Str} {g : List PyData → Pp PyData} (C : Callee κ.P κ.w κ.K κ.mg κ.base n x ps (spP κ.K g)) (ha : XA κ (e :: es) fs) (hk : n ≤ κ.k := by first | exact Nat.le_of_ble_eq_true rfl | (dsimp only; omega)) (hg : κ.nm.lookup x = some .globalImplicit := by rfl)
    (hdb : (x == ("__debug__" : Str)) = false := by decide) (he : ∀ env : PySem.Env, starEach (e :: es) env = (false, eval e env) :: starEach es env := by intro _; rfl) (hpl : ∀ env : PySem.Env, (backTo pos (starEach es env)).any (·.1) = false := by intro _; rfl) :
    XE κ (.Call (.Name x p) (e :: es) [] pos) (eCall (gP g) fs) := let ⟨_, h1, r1⟩ := ha; ⟨_, x_call0 hk C hg h1 hdb he hpl, fun d Pt hF => re_callP (W := κ.W d Pt) (r1 d Pt hF)⟩
theorem xf_callP {n : Nat} {x : Str} {ps : List Str} {g : List PyData → Pp (List PyData)} (C : Callee κ.P κ.w κ.K κ.mg κ.base n x ps (spPF κ.K g)) (ha : XA κ (e :: es) fs) (hk : n ≤ κ.k := by first | exact Nat.le_of_ble_eq_true rfl | (dsimp only; omega)) (hg : κ.nm.lookup x = some .globalImplicit := by rfl)
    (hdb : (x == ("__debug__" : Str)) = false := by decide) (he : ∀ env : PySem.Env, starEach (e :: es) env = (false, eval e env) :: starEach es env := by intro _; rfl) (hpl : ∀ env : PySem.Env, (backTo pos (starEach es env)).any (·.1) = false := by intro _; rfl) :
    XF κ (.Call (.Name x p) (e :: es) [] pos) (eCallF (gPF g) fs) := let ⟨_, h1, r1⟩ := ha; ⟨_, x_call0 hk C hg h1 hdb he hpl, fun d Pt hF => rf_callP (W := κ.W d Pt) (r1 d Pt hF)⟩
theorem x_callM {n : Nat} {x : Str} {ps : List Str} {g : List PyData → Pp PyData} (C : Callee κ.P κ.w κ.K κ.mg κ.base n x ps (spX κ.K κ.fam g)) (ha : XA κ (e :: es) fs) (hk : n ≤ κ.k := by first | exact Nat.le_of_ble_eq_true rfl | (dsimp only; omega)) (hg : κ.nm.lookup x = some .globalImplicit := by rfl)
    (hdb : (x == ("__debug__" : Str)) = false := by decide) (he : ∀ env : PySem.Env, starEach (e :: es) env = (false, eval e env) :: starEach es env := by intro _; rfl) (hpl : ∀ env : PySem.Env, (backTo pos (starEach es env)).any (·.1) = false := by intro _; rfl) :
    XE κ (.Call (.Name x p) (e :: es) [] pos) (eCall g fs) := let ⟨_, h1, r1⟩ := ha; ⟨_, x_call0 hk C hg h1 hdb he hpl, fun d Pt hF => re_callX hF (r1 d Pt hF)⟩
end
theorem xg_name (i : Nat) {x : Str} (hN : κ.N[i]? = some x := by rfl) (hx : κ.nm.lookup x = some .local ∨ κ.nm.lookup x = some .cell := by first | exact .inl rfl | exact .inr rfl) (hf : κ.fc x = true ∨ κ.nm.lookup x = some .local := by first | exact .inl rfl | exact .inr rfl) : XG κ (.Name x pos) [i] (gN i) :=
  ⟨_, fun X h => pg_name (by rw [h.nn]; exact h.nd) (by rw [h.nn]; exact hN) (by unfold L2.Loc; rw [h.names]; exact hx) (by rw [h.names]; exact hf.imp_left (h.fn x)), fun d Pt hF => rg_name i⟩
theorem xgs_nil : XGs κ [] 0 [] gsNil := ⟨rfl, _, fun X h => pgs_nil, fun d Pt hF => rgs_nil⟩
theorem xgs_cons {n : Nat} {is js : List Nat} {f : PyData → Env → Pp Env} {fs : List PyData → Env → Pp Env} (h1 : XG κ e is f) (h2 : XGs κ es n js fs)
    (hs : ∀ env : PySem.Env, (assignEach (e :: es) env).map (·.2) = assign e env :: (assignEach es env).map (·.2) := by intro _; rfl) : XGs κ (e :: es) (n + 1) (is ++ js) (gsCons f fs) :=
  let ⟨l, _, a2, r2⟩ := h2; let ⟨_, a1, r1⟩ := h1; ⟨by rw [List.length_cons, l], _, fun X h => pgs_cons (a1 X h) (a2 X h) (hs _), fun d Pt hF => rgs_cons (r1 d Pt hF) (r2 d Pt hF)⟩
theorem xg_tup {k n : Nat} {is : List Nat} {fs : List PyData → Env → Pp Env} (h1 : XGs κ es n is fs) (hn : ∀ env : PySem.Env, (assignEach es env).length = n := by intro _; rfl) (hst : ∀ env : PySem.Env, (assignEach es env).findIdx? (·.1) = none := by intro _; rfl) : XG κ (.Tuple es k pos) is (gT n fs) :=
  let ⟨_, _, a1, r1⟩ := h1; ⟨_, fun X h => by have := pg_tup (pos := pos) (k := k) h.calm (a1 X h) (hn _) (hst _); rw [h.kk] at this; exact this, fun d Pt hF => rg_tup (r1 d Pt hF)⟩
theorem xi_seq {tg : Expr} (ha : XE κ a fa) : XI κ tg a (iSeq fa) := let ⟨_, h1, r1⟩ := ha; ⟨_, fun X h => by have := pi_any (tg := tg) (h1 X h); rw [h.kk] at this; exact this, fun d Pt hF => ri_seq (r1 d Pt hF)⟩
theorem xts_nil : XTs κ [] (fun _ => ret true) := ⟨_, fun X h => pts_nil, fun d Pt hF σ H Hs Hr ρ Q Q0 g er h k => k true H Hs h g (Same.refl _)⟩
theorem xts_one {f1 : Env → Pp Bool} (ha : XT κ a f1) : XTs κ [a] f1 := let ⟨_, h1, r1⟩ := ha; ⟨_, fun X h => pts_one (h1 X h), fun d Pt hF => (r1 d Pt hF)⟩
theorem xf_lc {elt tg iter : Expr} {ifs : List Expr} {scope : Scope} {it : Env → Pp (List PyData)} {is : List Nat} {fg : PyData → Env → Pp Env} {ft : Env → Pp Bool} (own : List (Str × Nat)) (vs : List Nat)
    (hi : XI κ tg iter it) (ok : blkC κ.N { kind := .function, names := κ.nm, isGenerator := false, isCoroutine := false } scope own = true) (hv : own.map (·.2) = vs) (hg : XG (κ.blk scope) tg is fg) (hsub : (is.all fun i => vs.contains i) = true) (ht : XTs (κ.blk scope) ifs ft) (he : XE (κ.blk scope) elt fe)
    (hs : ∀ (env : PySem.Env) x, foldedSetIterable iter env x = pure x := by intro _ _; rfl) : XF κ (.ListComp elt [⟨tg, iter, ifs, 0⟩] scope pos) (fLc it fg ft fe vs) := by
  obtain ⟨_, i1, i2⟩ := hi
  obtain ⟨_, g1, g2⟩ := hg
  obtain ⟨_, t1, t2⟩ := ht
  obtain ⟨_, e1, e2⟩ := he
  subst hv
  have bo := blkOk_by ok
  refine ⟨_, fun X h => pe_lc (own := own) h.calm (by rw [h.nn]; exact h.nd) (i1 X h) ?_ (fun s H C cl fp => g1 _ (h.blk bo.kind s H C cl fp)) (fun s H C cl fp => t1 _ (h.blk bo.kind s H C cl fp)) (fun s H C cl fp => e1 _ (h.blk bo.kind s H C cl fp)) (hs _),
    fun d Pt hF => rf_lc (i2 d Pt hF) (g2 d Pt hF) (fun i hi => by simpa using List.all_eq_true.mp hsub i hi) (t2 d Pt hF) (e2 d Pt hF)⟩
  rw [h.nn]
  exact ⟨bo.kind, bo.uniq, bo.ix, fun y hy e => by rw [h.names]; exact bo.free y hy e, bo.own⟩
section
variable {st : Stmt} {rest : List Stmt} {f g : Sm}
theorem xs_nil : XSs κ [] sNext := ⟨_, fun X h => pss_nil, fun d Pt hF => rs_next⟩
theorem xs_cons (h1 : XS κ st f) (h2 : XSs κ rest g) : XSs κ (st :: rest) (sSeq f g) := let ⟨_, a1, r1⟩ := h1; let ⟨_, a2, r2⟩ := h2; ⟨_, fun X h => pss_cons (a1 X h) (a2 X h), fun d Pt hF => rs_seq (r1 d Pt hF) (r2 d Pt hF)⟩
theorem xs_one (h1 : XS κ st f) : XSs κ [st] f := let ⟨_, a1, r1⟩ := h1; ⟨_, fun X h => pss_one (a1 X h), fun d Pt hF => (r1 d Pt hF)⟩
theorem xs_ret (ha : XE κ a fa) : XS κ (.Return (some a) pos) (sRet fa) := let ⟨_, h1, r1⟩ := ha; ⟨_, fun X h => ps_ret (h1 X h), fun d Pt hF => rs_ret (r1 d Pt hF)⟩
theorem xs_if {f1 : Env → Pp Bool} {ss ts : List Stmt} (hc : XT κ c f1) (h1 : XSs κ ss f) (h2 : XSs κ ts g) : XS κ (.If c ss ts pos) (sIf f1 f g) := let ⟨_, h0, r0⟩ := hc; let ⟨_, a1, r1⟩ := h1; let ⟨_, a2, r2⟩ := h2; ⟨_, fun X h => ps_if (h0 X h) (a1 X h) (a2 X h), fun d Pt hF => rs_if (r0 d Pt hF) (r1 d Pt hF) (r2 d Pt hF)⟩
section
variable {tg : Expr} {is : List Nat} {fg : PyData → Env → Pp Env}
theorem xs_for {iter : Expr} {body : List Stmt} {it : Env → Pp (List PyData)} (hi : XI κ tg iter it) (hg : XG κ tg is fg) (hb : XSs κ body f) (hs : ∀ (env : PySem.Env) x, foldedSetIterable iter env x = pure x := by intro _ _; rfl) : XS κ (.For tg iter body [] pos) (sFor it fg f) :=
  let ⟨_, i1, i2⟩ := hi; let ⟨_, g1, g2⟩ := hg; let ⟨_, b1, b2⟩ := hb; ⟨_, fun X h => ps_for (by rw [h.xe]; exact PassesOwn.never) h.calm (i1 X h) (g1 X h) (b1 X h) (hs _), fun d Pt hF => rs_for (i2 d Pt hF) (g2 d Pt hF) (b2 d Pt hF)⟩
end
theorem ps_set_of {i : Nat} {x : Str} {t : TE} {pos' : Pos} (h1 : ∀ X, Cn κ X → PE X a t) (hN : κ.N[i]? = some x) (hx : κ.nm.lookup x = some .local ∨ κ.nm.lookup x = some .cell) (hf : κ.fc x = true ∨ κ.nm.lookup x = some .local)
    (hs : ∀ env : PySem.Env, swapsWith a (some (.Name x pos')) pos.line env = pure false) : ∀ X, Cn κ X → PS X (.Assign [.Name x pos'] a pos) (tAsg t (gName i)) := fun X h =>
  ps_set (by rw [h.nn]; exact h.nd) (by rw [h.nn]; exact hN) (by unfold L2.Loc; rw [h.names]; exact hx) (h1 X h) (hs _) (by rw [h.names]; exact hf.imp_left (h.fn x))
theorem xs_set (i : Nat) {x : Str} {pos' : Pos} (ha : XE κ a fa) (hN : κ.N[i]? = some x := by rfl) (hx : κ.nm.lookup x = some .local ∨ κ.nm.lookup x = some .cell := by first | exact .inl rfl | exact .inr rfl) (hf : κ.fc x = true ∨ κ.nm.lookup x = some .local := by first | exact .inl rfl | exact .inr rfl)
    (hs : ∀ env : PySem.Env, swapsWith a (some (.Name x pos')) pos.line env = pure false := by intro _; rfl) : XS κ (.Assign [.Name x pos'] a pos) (sAsg fa (gN i)) := let ⟨_, h1, r1⟩ := ha; ⟨_, ps_set_of h1 hN hx hf hs, fun d Pt hF => rs_asg (r1 d Pt hF) (rg_name i)⟩
theorem xs_own (i : Nat) {x : Str} {pos' : Pos} {ff : Env → Pp (List PyData)} (ha : XF κ a ff) (hN : κ.N[i]? = some x := by rfl) (hx : κ.nm.lookup x = some .local ∨ κ.nm.lookup x = some .cell := by first | exact .inl rfl | exact .inr rfl) (hf : κ.fc x = true ∨ κ.nm.lookup x = some .local := by first | exact .inl rfl | exact .inr rfl)
    (hs : ∀ env : PySem.Env, swapsWith a (some (.Name x pos')) pos.line env = pure false := by intro _; rfl) : XS κ (.Assign [.Name x pos'] a pos) (sOwn ff i) := let ⟨_, h1, r1⟩ := ha; ⟨_, ps_set_of h1 hN hx hf hs, fun d Pt hF => rs_own (r1 d Pt hF) i⟩
theorem ps_app_of {i : Nat} {x : Str} {t : TE} {apos cpos : Pos} (h1 : ∀ X, Cn κ X → PE X e t) (hN : κ.N[i]? = some x) (hv : κ.nm.lookup x = some .local ∨ κ.nm.lookup x = some .cell ∨ κ.nm.lookup x = some .free) (hd : (x == ("__debug__" : Str)) = false) (hcd : (x == ("__classdict__" : Str)) = false)
    (hbase : ∀ env : PySem.Env, attributeBase (.Name x p) "append" env (eval (.Name x p) env) = eval (.Name x p) env)
    (hst : ∀ env : PySem.Env, starEach [e] env = [(false, eval e env)]) (hline : (apos.endLine == cpos.line) = true)
    (hsw : ∀ env : PySem.Env, swapsWith (.Call (.Attribute (.Name x p) "append" apos) [e] [] cpos) none pos.line env = pure false) :
    ∀ X, Cn κ X → PS X (.Expr (.Call (.Attribute (.Name x p) "append" apos) [e] [] cpos) pos) (tDrop (tBM κ.K "list" rAppend (tVar i) (tCons t tNil))) := fun X h => by
  have hs1 : starEach [e] X.env = (false, eval e X.env) :: starEach [] X.env := hst X.env
  have hq : PE X (.Call (.Attribute (.Name x p) "append" apos) [e] [] cpos) (tBM X.K "list" rAppend (tVar i) (tCons t tNil)) :=
    pe_bm PySem.F.plainAttrs_list PySem.F.slot_list_append PySem.F.type_list_append mt_append (pe_var (by rw [h.nn]; exact hN) (vis_of h hv) hd hcd) (pa_cons (h1 X h) pa_nil hs1) (hbase _) (by rw [hs1]; rfl) hline hs1 rfl
  rw [h.kk] at hq
  exact ps_expr hq (hsw _)
theorem xs_app (i : Nat) {x : Str} {apos cpos : Pos} (ha : XE κ e fe) (hN : κ.N[i]? = some x := by rfl) (hv : κ.nm.lookup x = some .local ∨ κ.nm.lookup x = some .cell ∨ κ.nm.lookup x = some .free := by first | exact .inl rfl | exact .inr (.inl rfl) | exact .inr (.inr rfl)) (hd : (x == ("__debug__" : Str)) = false := by decide) (hcd : (x == ("__classdict__" : Str)) = false := by decide)
    (hbase : ∀ env : PySem.Env, attributeBase (.Name x p) "append" env (eval (.Name x p) env) = eval (.Name x p) env := by intro _; rfl)
    (hst : ∀ env : PySem.Env, starEach [e] env = [(false, eval e env)] := by intro _; rfl) (hline : (apos.endLine == cpos.line) = true := by rfl)
    (hsw : ∀ env : PySem.Env, swapsWith (.Call (.Attribute (.Name x p) "append" apos) [e] [] cpos) none pos.line env = pure false := by intro _; rfl) :
    XS κ (.Expr (.Call (.Attribute (.Name x p) "append" apos) [e] [] cpos) pos) (sApp i fe) := let ⟨_, h1, r1⟩ := ha; ⟨_, ps_app_of h1 hN hv hd hcd hbase hst hline hsw, fun d Pt hF => rs_app (W := κ.W d Pt) i (r1 d Pt hF)⟩
theorem xs_retF {ff : Env → Pp (List PyData)} (ha : XF κ a ff) : XS κ (.Return (some a) pos) (sRetF ff) := let ⟨_, h1, r1⟩ := ha; ⟨_, fun X h => ps_ret (h1 X h), fun d Pt hF => rs_retF (r1 d Pt hF)⟩
theorem xs_retO (i : Nat) {x : Str} (hN : κ.N[i]? = some x := by rfl) (hv : κ.nm.lookup x = some .local ∨ κ.nm.lookup x = some .cell ∨ κ.nm.lookup x = some .free := by first | exact .inl rfl | exact .inr (.inl rfl) | exact .inr (.inr rfl)) (hd : (x == ("__debug__" : Str)) = false := by decide) (hcd : (x == ("__classdict__" : Str)) = false := by decide) : XS κ (.Return (some (.Name x p)) pos) (sRetO i) :=
  ⟨_, fun X h => ps_ret (pe_var (by rw [h.nn]; exact hN) (vis_of h hv) hd hcd), fun d Pt hF => rs_retO i⟩
theorem xs_clr (i : Nat) {x : Str} {apos cpos : Pos} (hN : κ.N[i]? = some x := by rfl) (hv : κ.nm.lookup x = some .local ∨ κ.nm.lookup x = some .cell ∨ κ.nm.lookup x = some .free := by first | exact .inl rfl | exact .inr (.inl rfl) | exact .inr (.inr rfl)) (hd : (x == ("__debug__" : Str)) = false := by decide) (hcd : (x == ("__classdict__" : Str)) = false := by decide)
    (hbase : ∀ env : PySem.Env, attributeBase (.Name x p) "clear" env (eval (.Name x p) env) = eval (.Name x p) env := by intro _; rfl) (hline : (apos.endLine == cpos.line) = true := by rfl)
    (hsw : ∀ env : PySem.Env, swapsWith (.Call (.Attribute (.Name x p) "clear" apos) [] [] cpos) none pos.line env = pure false := by intro _; rfl) :
    XS κ (.Expr (.Call (.Attribute (.Name x p) "clear" apos) [] [] cpos) pos) (sClr i) := ⟨_, fun X h => by
      have hq : PE X (.Call (.Attribute (.Name x p) "clear" apos) [] [] cpos) (tBM0 X.K "list" rClear (tVar i)) := pe_bm0 PySem.F.plainAttrs_list PySem.F.slot_list_clear PySem.F.type_list_clear mt_clear (pe_var (by rw [h.nn]; exact hN) (vis_of h hv) hd hcd) (hbase _) hline
      rw [h.kk] at hq
      exact ps_expr hq (hsw _), fun d Pt hF => rs_clr (W := κ.W d Pt) i⟩
end
end
section
variable {P : Program} {w : World} {K : PySem.W.Frag} {mg : Str → Option Value} {base : Heap}
abbrev mkK (P : Program) (w : World) (K : PySem.W.Frag) (mg : Str → Option Value) (base : Heap) (k : Nat) (N : List Str) (nm : List (Str × NameKind)) (fam : Addr → (Hp → Prop) → Prop) : Kx := ⟨P, w, K, mg, base, k, N, nm, fun _ => true, fam⟩
theorem cn_start {x qual : Str} {st : Stmt} {f : Addr} {cdv : Value} {A : Around} {outer : List PySem.Env} {s : Shared} {H : Hp} {E : XK} {N ps : List Str} {nm : List (Str × NameKind)} {k : Nat} {fam : Addr → (Hp → Prop) → Prop} (S : FnScope N ps (defScope st)) (hnm : (defScope st).names = nm)
    (hr : Room k (A.deeper (envOfC qual (defScope st) s.heap.objs.size f cdv))) : Cn (mkK P w K mg base k N nm fam) (cxOf CX0 P w K mg base N qual (defScope st) f cdv A outer s H E).nox :=
  ⟨rfl, rfl, rfl, rfl, rfl, hr, rfl, hnm, S.kind, fun _ _ => rfl, S.nd, rfl, rfl⟩
theorem fn_okX {x qual : Str} {st : Stmt} {f : Addr} {fd : FuncData} {N ps : List Str} {nm : List (Str × NameKind)} {k : Nat} {fam : Addr → (Hp → Prop) → Prop} {g : List PyData → Pp PyData} {fb : Sm} (F : Fun K x qual st f fd) (S : FnScope N ps (defScope st)) (hnm : (defScope st).names = nm)
    (hg : ∀ ds Q, g ds Q → ds.length = ps.length ∧ fnD (N.length - ps.length) fb ds Q) (hb : XSs (mkK P w K mg base k N nm fam) (defBody st) fb) : FnOk P w K mg base CX0 (k + 1) f fd ps (spX K fam g) := by
  obtain ⟨t, h1, h2⟩ := hb
  refine F.ok S (fun vs H Q E h => ?_) (fun cdv A outer s H vs Q E hr h => ?_)
  · obtain ⟨d, Pt, hF, Hs, Hr, ds, Q0, g0, c, hq, _⟩ := h
    rw [c.length, (hg ds Q0 hq).1]
  · obtain ⟨d, Pt, hF, Hs, Hr, ds, Q0, g0, c, hq, k0⟩ := h
    obtain ⟨hl, hq⟩ := hg ds Q0 hq
    refine ⟨t, h1 _ (cn_start (x := x) S hnm hr), ?_⟩
    have hpl : ps.length ≤ N.length := by have := congrArg List.length S.pre; rw [List.length_take] at this; omega
    refine h2 d Pt hF _ _ H Hs Hr _ _ (sr_start (N := N) g0 c (by omega)) (by rw [hl]; exact hq) ⟨fun σ ρ H' Hs' e r q => ?_, fun d v H' Hs' e r q c => k0 d v H' Hs' e r q c, fun σ ρ H' Hs' e r q => False.elim e, fun σ ρ H' Hs' e r q => False.elim e, fun ds p vs H' Hs' e => False.elim e⟩
    obtain ⟨Ho, r⟩ := r
    obtain ⟨g1, s1, _, _⟩ := r.shown
    exact k0 .none .non H' _ e g1 (q.trans s1) (CRel.of .non)
abbrev fam0 : Addr → (Hp → Prop) → Prop := fun d Pt => d = 0 ∧ Pt = fun Hq => Hq = e0
def fnP (n : Nat) (fb : Sm) : List PyData → Pp PyData := fun ds Q => fnD n fb ds fun d => noPot d = true ∧ Q d
theorem fn_okP {x qual : Str} {st : Stmt} {f : Addr} {fd : FuncData} {N ps : List Str} {nm : List (Str × NameKind)} {k : Nat} {g : List PyData → Pp PyData} {fb : Sm} (F : Fun K x qual st f fd) (S : FnScope N ps (defScope st)) (hnm : (defScope st).names = nm)
    (hg : ∀ ds Q, g ds Q → ds.length = ps.length ∧ fnP (N.length - ps.length) fb ds Q) (hb : XSs (mkK P w K mg base k N nm fam0) (defBody st) fb) : FnOk P w K mg base CX0 (k + 1) f fd ps (spP K g) := by
  refine (fn_okX (g := fun ds Q => ds.length = ps.length ∧ fnD (N.length - ps.length) fb ds Q) F S hnm (fun ds Q h => h) hb).imp fun vs H Q E h => ?_
  obtain ⟨Hs, Hr, ds, Q0, j, c, hq, k⟩ := h
  obtain ⟨hl, hq⟩ := hg ds Q0 hq
  exact ⟨0, _, ⟨rfl, rfl⟩, Hs, Hr, ds, _, ⟨e0, j, rfl⟩, CAll.of c, ⟨hl, hq⟩, fun d v H' Hs' q ⟨Hq, j', z⟩ s' c' => k d v H' Hs' q.2 (by cases z; exact j') s' (c'.dv q.1)⟩
def fnPF (n : Nat) (fb : Sm) : List PyData → Pp (List PyData) := fun ds Q => fb ⟨fun _ => False, fun _ => False, fun _ => False, fun _ => False, Q⟩ (env0 n ds)
theorem fn_okPF {x qual : Str} {st : Stmt} {f : Addr} {fd : FuncData} {N ps : List Str} {nm : List (Str × NameKind)} {k : Nat} {g : List PyData → Pp (List PyData)} {fb : Sm} (F : Fun K x qual st f fd) (S : FnScope N ps (defScope st)) (hnm : (defScope st).names = nm)
    (hg : ∀ ds Q, g ds Q → ds.length = ps.length ∧ fnPF (N.length - ps.length) fb ds Q) (hb : XSs (mkK P w K mg base k N nm fam0) (defBody st) fb) : FnOk P w K mg base CX0 (k + 1) f fd ps (spPF K g) := by
  obtain ⟨t, h1, h2⟩ := hb
  refine F.ok S (fun vs H Q E h => ?_) (fun cdv A outer s H vs Q E hr h => ?_)
  · obtain ⟨Hs, Hr, ds, Q0, j, c, hq, _⟩ := h
    rw [c.length, (hg ds Q0 hq).1]
  · obtain ⟨Hs, Hr, ds, Q0, j, c, hq, k0⟩ := h
    obtain ⟨hl, hq⟩ := hg ds Q0 hq
    refine ⟨t, h1 _ (cn_start (x := x) S hnm hr), ?_⟩
    have hpl : ps.length ≤ N.length := by have := congrArg List.length S.pre; rw [List.length_take] at this; omega
    refine h2 0 _ ⟨rfl, rfl⟩ _ _ H Hs Hr _ _ (sr_start (W := ⟨K, 0, fun Hq => Hq = e0⟩) (N := N) ⟨e0, j, rfl⟩ (CAll.of c) (by omega)) (by rw [hl]; exact hq) ⟨fun σ ρ H' Hs' e r q => False.elim e, fun d v H' Hs' e r q c => False.elim e, fun σ ρ H' Hs' e r q => False.elim e, fun σ ρ H' Hs' e r q => False.elim e, fun es p ws H' Hs' e hp g s z a => ?_⟩
    obtain ⟨Hq, j', z'⟩ := g
    cases z'
    exact k0 es p ws H' Hs' e hp j' s z a
end
end DL
set_option Elab.async false
set_option linter.all false
set_option maxRecDepth 100000
set_option maxHeartbeats 400000
namespace HT
open PySem PySem.Spec PyProof.Rows L2
section
variable {prog : Program} {w : World} {A : Around} {E : Value → Shared → Prop} {s : Shared}
theorem getItem_tuple_whole {t sl : Addr} {items : Array Value} {vl vu : Value} {lo hi : Option Int} {Q : Value → Shared → Prop} (ht : IsTup s.heap t items) (hs : s.heap.IsSliceOf sl vl vu .none) (pl : IsPart vl lo) (pu : IsPart vu hi)
    (hw : sIx items.size 0 lo = 0 ∧ sIx items.size items.size hi = items.size)
    (h : Q (.ref t) s) : wpAny (model prog w) A (getItem (.ref t) (.ref sl)) Q E s := by
  obtain ⟨os, hos, hcs, hds⟩ := id hs
  have hTs : s.TypeIs (.ref sl) "slice" := ⟨os, hos, hcs⟩
  unfold getItem
  try with_reducible refine wpAny_holding ?_
  first | refine wpAny_bind (wpAny_pure ?_) | skip
  refine wpAny_bind (wpAny_sequenceKey ht.typeIs (by decide) ?_)
  refine wpAny_bind (wpAny_callSpecial?_slot (name := Str.ofString "__getitem__") ht.typeIs PyProof.Rows.slot_tuple_getitem
    (wpAny_call_entry PyProof.Rows.slot_tuple_getitem ht.typeIs entry_tuple_getitem ?_ (args_tuple_getitem _ _)))
  show wpAny _ _ (Builtin.Tuple.tupleItemsOf (.ref t) >>= _) _ _ s
  refine wpAny_bind (tupleItemsOf_ ht ?_)
  refine wpAny_bind (wpAny_typeOf hTs ?_)
  rw [if_pos (by decide)]
  refine wpAny_bind (sliceApplied_gen hs pl pu ?_)
  have hyes : ((((sIx items.size 0 lo : Nat) : Int) == 0 && (1 : Int) == 1 && (sIx items.size items.size hi - sIx items.size 0 lo) == items.size) = true) := by
    rw [hw.1, hw.2]; simp
  show wpAny _ _ (if (((sIx items.size 0 lo : Nat) : Int) == 0 && (1 : Int) == 1 && (sIx items.size items.size hi - sIx items.size 0 lo) == items.size) = true then _ else _) _ _ s
  rw [if_pos hyes]
  unfold Builtin.Tuple.tupleIsExact
  refine wpAny_bind (wpAny_bind (wpAny_typeOf ht.typeIs (wpAny_pure ?_)))
  rw [if_pos (by decide)]
  first
    | exact wpAny_bind (wpAny_pure ⟨_, rfl, wpAny_pure h⟩)
    | exact wpAny_bind (wpAny_rule (wpAny_pure ⟨_, rfl, wpAny_pure h⟩))
    | exact wpAny_bind (wpAny_rule ⟨_, rfl, wpAny_pure h⟩)
    | exact wpAny_pure ⟨_, rfl, wpAny_pure h⟩
end
end HT
namespace DL
open PySem PySem.Spec PyProof.Rows L2
section
variable {W : Wd}
theorem CAll.i1 {H : Hp} {vs : List V} {j : Int} (c : CAll W H vs [.int j]) : vs = [.int j] := by
  obtain ⟨x, rfl, c1⟩ := c.one
  cases Dv.i_int c1
  rfl
theorem CAll.i2 {H : Hp} {vs : List V} {i j : Int} (c : CAll W H vs [.int i, .int j]) : vs = [.int i, .int j] := by
  obtain ⟨x, y, rfl, c1, c2⟩ := c.two
  cases Dv.i_int c1
  cases Dv.i_int c2
  rfl
theorem ri_r1 {ta : TA} {fs : Env → Pp (List PyData)} (ha : RA W ta fs) : RI W (iRng1 ta) (iR1 fs) := fun σ H Hs Hr ρ R Q0 g er h k =>
  ha σ H Hs Hr ρ _ _ g er h fun ds vs H1 Hs1 h1 g1 s1 c1 => by
    dsimp only at h1
    split at h1
    · rename_i j
      rcases ite_run h1 with ⟨e, h1⟩ | ⟨_, h1⟩
      · cases c1.i1
        refine ⟨j, rfl, e.1, by have := e.2; rw [line_eq] at this; omega, k _ _ H1 Hs1 h1 g1 s1 (itr_ok ?_)⟩
        have := e.2
        omega
      · exact (h1 : False).elim
    · exact (h1 : False).elim
theorem ri_r2 {ta : TA} {fs : Env → Pp (List PyData)} (ha : RA W ta fs) : RI W (iRng2 ta) (iR2 fs) := fun σ H Hs Hr ρ R Q0 g er h k =>
  ha σ H Hs Hr ρ _ _ g er h fun ds vs H1 Hs1 h1 g1 s1 c1 => by
    dsimp only at h1
    split at h1
    · rename_i i j
      rcases ite_run h1 with ⟨e, h1⟩ | ⟨_, h1⟩
      · cases c1.i2
        exact ⟨i, j, rfl, ⟨e.1, e.2.1, e.2.2.1, e.2.2.2.1⟩, k _ _ H1 Hs1 h1 g1 s1 (itr_ok (by have := e.2.2.2.2; omega))⟩
      · exact (h1 : False).elim
    · exact (h1 : False).elim
def enumD (ds : List PyData) : List PyData := (List.range ds.length).map fun i => .tuple [.int (i : Nat), ds.getD i .none]
def iEn (fs : Env → Pp (List PyData)) : Env → Pp (List PyData) := fun ρ => bnd (fs ρ) fun ds => match ds with
  | [.list xs] => ret (enumD xs)
  | _ => fail
def zipD (xs ys : List PyData) : List PyData := List.zipWith (fun a b => .tuple [a, b]) xs ys
theorem zipD_get {xs ys : List PyData} {i : Nat} {a b : PyData} (h : xs[i]? = some a) (h' : ys[i]? = some b) : (zipD xs ys)[i]? = some (.tuple [a, b]) := by
  simp [zipD, List.getElem?_zipWith, h, h']
end
section
variable {κ : Kx} {a b c e : Expr} {es : List Expr} {fa fb fc fe : Env → Pp PyData} {fs : Env → Pp (List PyData)} {pos p p1 p2 : Pos} {tg : Expr}
theorem xi_r1 (hm : κ.mg "range" = none) (ha : XA κ [a] fs) (hg : κ.nm.lookup ("range" : Str) = some .globalImplicit := by rfl) (hs : ∀ env : PySem.Env, starEach [a] env = [(false, eval a env)] := by intro _; rfl) : XI κ tg (.Call (.Name "range" p) [a] [] pos) (iR1 fs) :=
  let ⟨_, h1, r1⟩ := ha; ⟨_, fun X h => pi_range1 (gl_of h hg) (by rw [h.mg]; exact hm) (h1 X h) (hs _), fun d Pt hF => ri_r1 (r1 d Pt hF)⟩
theorem xi_r2 (hm : κ.mg "range" = none) (ha : XA κ [a, b] fs) (hg : κ.nm.lookup ("range" : Str) = some .globalImplicit := by rfl) (hs : ∀ env : PySem.Env, starEach [a, b] env = [(false, eval a env), (false, eval b env)] := by intro _; rfl) (hs2 : ∀ env : PySem.Env, starEach [b] env = [(false, eval b env)] := by intro _; rfl) : XI κ tg (.Call (.Name "range" p) [a, b] [] pos) (iR2 fs) :=
  let ⟨_, h1, r1⟩ := ha; ⟨_, fun X h => pi_range2 (gl_of h hg) (by rw [h.mg]; exact hm) (h1 X h) (hs _) (hs2 _), fun d Pt hF => ri_r2 (r1 d Pt hF)⟩
theorem x_len (hm : κ.mg "len" = none) (ha : XA κ [e] fs) (hg : κ.nm.lookup ("len" : Str) = some .globalImplicit := by rfl) (he : ∀ env : PySem.Env, starEach [e] env = (false, eval e env) :: starEach [] env := by intro _; rfl) : XE κ (.Call (.Name "len" p) [e] [] pos) (eCB (d1 dLen) fs) := x_cb (fun X h => by have := call_len_seq (X := X); rwa [h.kk] at this) (fun _ _ => cd_len) hg hm PySem.boot_len ha (he := he)
theorem x_abs (hm : κ.mg "abs" = none) (ha : XA κ [e] fs) (hg : κ.nm.lookup ("abs" : Str) = some .globalImplicit := by rfl) (he : ∀ env : PySem.Env, starEach [e] env = (false, eval e env) :: starEach [] env := by intro _; rfl) : XE κ (.Call (.Name "abs" p) [e] [] pos) (eCB (d1 dAbs) fs) := x_cb (fun X h => call_abs) (fun _ _ => cd_abs) hg hm (by decide +kernel) ha (he := he)
theorem x_all (hm : κ.mg "all" = none) (ha : XA κ [e] fs) (hg : κ.nm.lookup ("all" : Str) = some .globalImplicit := by rfl) (he : ∀ env : PySem.Env, starEach [e] env = (false, eval e env) :: starEach [] env := by intro _; rfl) : XE κ (.Call (.Name "all" p) [e] [] pos) (eCB (d1 dAll) fs) := x_cb (fun X h => by have := cr_all (X := X) h.calm; rwa [h.kk] at this) (fun _ _ => cd_all) hg hm (by decide +kernel) ha (he := he)
theorem x_tuple (hm : κ.mg "tuple" = none) (ha : XA κ [e] fs) (hg : κ.nm.lookup ("tuple" : Str) = some .globalImplicit := by rfl) (he : ∀ env : PySem.Env, starEach [e] env = (false, eval e env) :: starEach [] env := by intro _; rfl) : XE κ (.Call (.Name "tuple" p) [e] [] pos) (eCB (d1 dTupOf) fs) := x_cty (fun X h => by have := call_tuple_of (X := X); rwa [h.kk] at this) (fun _ _ => cd_tup) hg hm (by decide +kernel) ha (he := he)
theorem x_list (hm : κ.mg "list" = none) (ha : XA κ [e] fs) (hg : κ.nm.lookup ("list" : Str) = some .globalImplicit := by rfl) (he : ∀ env : PySem.Env, starEach [e] env = (false, eval e env) :: starEach [] env := by intro _; rfl) : XE κ (.Call (.Name "list" p) [e] [] pos) (eCB (d1 dLstOf) fs) := x_cty (fun X h => by have := call_list_of (X := X); rwa [h.kk] at this) (fun _ _ => cd_lst) hg hm (by decide +kernel) ha (he := he)
def fLstOf (fs : Env → Pp (List PyData)) : Env → Pp (List PyData) := fun ρ => bnd (fs ρ) fun ds => match ds with
  | [a] => ofO (itemsD a)
  | _ => fail
def tyD : PyData → String
  | .none => "NoneType"
  | .bool _ => "bool"
  | .int _ => "int"
  | .str _ => "str"
  | .list _ => "list"
  | .tuple _ => "tuple"
  | .dict _ => "dict"
theorem tyOf_d {K : PySem.W.Frag} {H : Hp} {v : V} {d : PyData} (h : Dv K H v d) : tyOf K H v (tyD d) := by
  cases h with
  | non => rfl
  | bl _ => rfl
  | int _ => rfl
  | str _ => rfl
  | lst a z q => exact .inl ⟨⟨_, a⟩, rfl⟩
  | tup a z q => exact .inr ⟨⟨_, a⟩, rfl⟩
def eIsi (T : String) (fa : Env → Pp PyData) : Env → Pp PyData := fun ρ => bnd (fa ρ) fun a => fun Q => noPot a = true ∧ Q (.bool (isiA (tyD a) T))
theorem re_isi {W : Wd} {te : TE} {T : String} (hT : isiT T) (ha : RE W te fa) : RE W (tCB (rIsi W.K) (tCons te (tCons (tC (.ty T)) tNil))) (eIsi T fa) := fun σ H Hs Hr ρ Q Q0 g er h k =>
  ha σ H Hs Hr ρ _ _ g er h fun a x H1 Hs1 h1 g1 s1 c1 => ⟨x, T, tyD a, rfl, tyOf_d ((c1.dv h1.1).mono g1.vis), hT, k _ _ H1 Hs1 h1.2 g1 s1 (CRel.of (.bl _))⟩
theorem x_isi {T : String} {x : Str} (hT : isiT T) (hm : κ.mg "isinstance" = none) (hmT : κ.mg x = none) (hb : bootBuiltins x = some (.type T)) (ha : XE κ a fa) (hg : κ.nm.lookup ("isinstance" : Str) = some .globalImplicit := by rfl) (hgT : κ.nm.lookup x = some .globalImplicit := by rfl) (hn : x ≠ "__name__" := by decide) (hdb : (x == ("__debug__" : Str)) = false := by decide)
    (he : ∀ env : PySem.Env, starEach [a, .Name x p1] env = (false, eval a env) :: starEach [.Name x p1] env := by intro _; rfl) (he2 : ∀ env : PySem.Env, starEach [.Name x p1] env = (false, eval (.Name x p1) env) :: starEach [] env := by intro _; rfl) (hpl : ∀ env : PySem.Env, (backTo pos (starEach [.Name x p1] env)).any (·.1) = false := by intro _; rfl) :
    XE κ (.Call (.Name "isinstance" p) [a, .Name x p1] [] pos) (eIsi T fa) :=
  let ⟨_, h1, r1⟩ := ha; ⟨_, fun X h => pe_callB (by have := cr_isi (X := X); rwa [h.kk] at this) (gl_of h hg) (by rw [h.mg]; exact hm) (by decide +kernel) (pa_cons (h1 X h) (pa_cons (pe_bltn (v := .ty T) (gl_of h hgT) (by rw [h.mg]; exact hmT) hb rfl hn hdb) pa_nil (he2 _)) (he _)) (he := he _) (hpl := hpl _), fun d Pt hF => re_isi (W := κ.W d Pt) hT (r1 d Pt hF)⟩
def eIsiLT (fa : Env → Pp PyData) : Env → Pp PyData := fun ρ => bnd (fa ρ) fun a => fun Q => noPot a = true ∧ Q (.bool (tyD a == "list" || tyD a == "tuple"))
def cutD (xs : List PyData) (lo hi : Option Int) : List PyData := (xs.drop (HT.sIx xs.length 0 lo)).take (HT.sIx xs.length xs.length hi - HT.sIx xs.length 0 lo)
theorem DvAll.cut {K : PySem.W.Frag} {H : Hp} {vs : List V} {ds : List PyData} (h : DvAll K H vs ds) (lo hi : Option Int) : DvAll K H (cutV vs lo hi) (cutD ds lo hi) := by
  unfold cutV cutD
  rw [h.length]
  exact (h.drop _).take _
def RO (W : Wd) (t : TO) (f : Env → Pp (Option Int)) : Prop := ∀ σ H Hs Hr ρ (Q : Option Int → Hp → Prop) (Q0 : Option Int → Prop), G W Hr H Hs → ER W Hs σ ρ → f ρ Q0 → (∀ d H' Hs', Q0 d → G W Hr H' Hs' → Same Hs Hs' → Q d H') → t σ H Q
def XO (κ : Kx) (e : Option Expr) (f : Env → Pp (Option Int)) : Prop := ∃ t, (∀ X, Cn κ X → PO X e t) ∧ ∀ d Pt, κ.fam d Pt → RO (κ.W d Pt) t f
def oNo : Env → Pp (Option Int) := fun _ => ret none
def oSo (fa : Env → Pp PyData) : Env → Pp (Option Int) := fun ρ => bnd (fa ρ) fun a => match a with | .int i => ret (some i) | _ => fail
theorem xo_no : XO κ none oNo := ⟨_, fun X h => po_none, fun d Pt hF σ H Hs Hr ρ Q Q0 g er h k => k none H Hs h g (Same.refl _)⟩
theorem xo_so (ha : XE κ a fa) : XO κ (some a) (oSo fa) := let ⟨_, h1, r1⟩ := ha; ⟨_, fun X h => po_some (h1 X h), fun d Pt hF σ H Hs Hr ρ Q Q0 g er h k =>
  r1 d Pt hF σ H Hs Hr ρ _ _ g er h fun a x H1 Hs1 h1 g1 s1 c1 => by
    dsimp only at h1
    split at h1
    · cases Dv.i_int c1
      exact ⟨_, rfl, k _ H1 Hs1 h1 g1 s1⟩
    · exact (h1 : False).elim⟩
theorem sl_tupW {X : Cx} : SlR X (rSlTW X.K) := by
  intro pins s σ H x v vl vu lo hi sl Q I rx hs pl pu h
  obtain ⟨a, xs, rfl, hx, hw, q⟩ := h
  cases rx
  obtain ⟨its, r, ht, hz⟩ := I.tuple hx
  have hlen : its.toArray.size = xs.length := by rw [List.size_toArray]; exact r.length.symm
  exact ⟨"tuple", _, PyProof.Rows.slot_tuple_getitem.lookup, ht.typeIs, HT.getItem_tuple_whole ht hs pl pu (by rw [hlen]; exact hw) ⟨.ref a, H, I, rfl, q⟩⟩
def rSlA (K : PySem.W.Frag) : V → Option Int → Option Int → Hp → VK → Prop := fun x lo hi H Q => rSlL K x lo hi H Q ∨ (rSlT K x lo hi H Q ∨ rSlTW K x lo hi H Q)
theorem sl_A {X : Cx} : SlR X (rSlA X.K) := sl_list.or (sl_tup.or sl_tupW)
theorem cutD_whole {xs : List PyData} {lo hi : Option Int} (h : HT.sIx xs.length 0 lo = 0 ∧ HT.sIx xs.length xs.length hi = xs.length) : cutD xs lo hi = xs := by
  unfold cutD
  rw [h.1, h.2, List.drop_zero, Nat.sub_zero, List.take_length]
def dSl (a : PyData) (lo hi : Option Int) : Option PyData := match a with
  | .list xs => some (.list (cutD xs lo hi))
  | .tuple xs => some (.tuple (cutD xs lo hi))
  | _ => none
def eSl (fa : Env → Pp PyData) (fl fh : Env → Pp (Option Int)) : Env → Pp PyData := fun ρ => bnd (fa ρ) fun a => bnd (fl ρ) fun l => bnd (fh ρ) fun h => ofO (dSl a l h)
theorem re_sl {W : Wd} {te : TE} {tl th : TO} {fl fh : Env → Pp (Option Int)} (ha : RE W te fa) (hl : RO W tl fl) (hh : RO W th fh) : RE W (tSl (rSlA W.K) te tl th) (eSl fa fl fh) := fun σ H Hs Hr ρ Q Q0 g er h k =>
  ha σ H Hs Hr ρ _ _ g er h fun a x H1 Hs1 h1 g1 s1 c1 =>
    hl σ H1 Hs1 Hr ρ _ _ g1 (er.mono s1) h1 fun lo' H2 Hs2 h2 g2 s2 =>
      hh σ H2 Hs2 Hr ρ _ _ g2 ((er.mono s1).mono s2) h2 fun hi' H3 Hs3 h3 g3 s3 => by
        obtain ⟨c, e, q⟩ := ofO_some h3
        show rSlA W.K x lo' hi' H3 Q
        have c3 := (c1.mono s2).mono s3
        have ss := (s1.trans s2).trans s3
        unfold dSl at e
        split at e
        · cases e
          obtain ⟨p, xs, rfl, hp, z, qa⟩ := Dv.i_list c3
          refine .inl ⟨p, xs, rfl, Same.lst' g3.vis hp, fun l hl => ?_⟩
          have sn : Same Hs3 (upd Hs3 l (.lst (cutV xs lo' hi'))) := Same.new (g3.new hl)
          exact k _ _ _ (upd Hs3 l _) q (g3.alloc hl) (ss.trans sn) (CRel.of (.lst (SqL.of upd_same) (Nat.le_trans (cutV_length _ _ _) z) ((qa.cut _ _).mono sn)))
        · rename_i ys
          cases e
          obtain ⟨p, xs, rfl, hp, z, qa⟩ := Dv.i_tup c3
          by_cases hw : HT.sIx ys.length 0 lo' = 0 ∧ HT.sIx ys.length ys.length hi' = ys.length
          · refine .inr (.inr ⟨p, xs, rfl, Same.tup' g3.vis hp, by rw [qa.length]; exact hw, ?_⟩)
            rw [cutD_whole hw] at q
            exact k _ _ H3 Hs3 q g3 ss (CRel.of (.tup hp z qa))
          · refine .inr (.inl ⟨p, xs, rfl, Same.tup' g3.vis hp, by rw [qa.length]; exact hw, fun l hl => ?_⟩)
            have sn : Same Hs3 (upd Hs3 l (.tup (cutV xs lo' hi'))) := Same.new (g3.new hl)
            exact k _ _ _ (upd Hs3 l _) q (g3.alloc hl) (ss.trans sn) (CRel.of (.tup (SqT.of upd_same) (Nat.le_trans (cutV_length _ _ _) z) ((qa.cut _ _).mono sn)))
        · cases e
theorem x_sl {lo hi : Option Expr} {fl fh : Env → Pp (Option Int)} (ha : XE κ a fa) (hl : XO κ lo fl) (hh : XO κ hi fh) : XE κ (.Subscript a (.Slice lo hi none p2) pos) (eSl fa fl fh) :=
  let ⟨_, h1, r1⟩ := ha; let ⟨_, h2, r2⟩ := hl; let ⟨_, h3, r3⟩ := hh; ⟨_, fun X h => pe_slice (by have := sl_A (X := X); rwa [h.kk] at this) (h1 X h) (h2 X h) (h3 X h), fun d Pt hF => re_sl (W := κ.W d Pt) (r1 d Pt hF) (r2 d Pt hF) (r3 d Pt hF)⟩
theorem ps_lc_of {elt tg iter : Expr} {ifs : List Expr} {scope : Scope} {i : Nat} {y : Str} {py : Pos} {spos : Pos} {it : Env → Pp (List PyData)} {is : List Nat} {fg : PyData → Env → Pp Env} {ft : Env → Pp Bool} (own : List (Str × Nat)) (vs : List Nat)
    (hN : κ.N[i]? = some y) (hyl : κ.nm.lookup y = some .local) (hl : (py.line == pos.line) = true) (hany : (scope.names.any fun (n, k) => n == y && (k == .local || k == .cell)) = false)
    (hi : XI κ tg iter it) (ok : blkC κ.N { kind := .function, names := κ.nm, isGenerator := false, isCoroutine := false } scope own = true) (hv : own.map (·.2) = vs) (hg : XG (κ.blk scope) tg is fg) (hsub : (is.all fun i => vs.contains i) = true) (ht : XTs (κ.blk scope) ifs ft) (he : XE (κ.blk scope) elt fe)
    (hs : ∀ (env : PySem.Env) x, foldedSetIterable iter env x = pure x) : ∃ t, (∀ X, Cn κ X → PS X (.Assign [.Name y py] (.ListComp elt [⟨tg, iter, ifs, 0⟩] scope pos) spos) (tAsg t (gName i))) ∧ ∀ d Pt, κ.fam d Pt → RF (κ.W d Pt) t (fLc it fg ft fe vs) := by
  obtain ⟨_, i1, i2⟩ := hi
  obtain ⟨_, g1, g2⟩ := hg
  obtain ⟨_, t1, t2⟩ := ht
  obtain ⟨_, e1, e2⟩ := he
  subst hv
  have bo := blkOk_by ok
  refine ⟨_, fun X h => ps_setLc (own := own) h.calm (by rw [h.nn]; exact h.nd) (by rw [h.nn]; exact hN) (by rw [h.names]; exact hyl) (sw_true h.kind (by rw [h.names]; exact hyl) hl hany) (i1 X h) ?_ (fun s H C cl fp => g1 _ (h.blk bo.kind s H C cl fp)) (fun s H C cl fp => t1 _ (h.blk bo.kind s H C cl fp)) (fun s H C cl fp => e1 _ (h.blk bo.kind s H C cl fp)) (hs _),
    fun d Pt hF => rf_lc (i2 d Pt hF) (g2 d Pt hF) (fun i hi => by simpa using List.all_eq_true.mp hsub i hi) (t2 d Pt hF) (e2 d Pt hF)⟩
  rw [h.nn]
  exact ⟨bo.kind, bo.uniq, bo.ix, fun y hy e => by rw [h.names]; exact bo.free y hy e, bo.own⟩
theorem xs_lc {elt tg iter : Expr} {ifs : List Expr} {scope : Scope} (i : Nat) {y : Str} {py : Pos} {spos : Pos} {it : Env → Pp (List PyData)} {is : List Nat} {fg : PyData → Env → Pp Env} {ft : Env → Pp Bool} (own : List (Str × Nat)) (vs : List Nat)
    (hi : XI κ tg iter it) (ok : blkC κ.N { kind := .function, names := κ.nm, isGenerator := false, isCoroutine := false } scope own = true) (hv : own.map (·.2) = vs) (hg : XG (κ.blk scope) tg is fg) (hsub : (is.all fun i => vs.contains i) = true) (ht : XTs (κ.blk scope) ifs ft) (he : XE (κ.blk scope) elt fe)
    (hs : ∀ (env : PySem.Env) x, foldedSetIterable iter env x = pure x := by intro _ _; rfl) (hN : κ.N[i]? = some y := by rfl) (hyl : κ.nm.lookup y = some .local := by rfl) (hl : (py.line == pos.line) = true := by rfl) (hany : (scope.names.any fun (n, k) => n == y && (k == .local || k == .cell)) = false := by decide +kernel) :
    XS κ (.Assign [.Name y py] (.ListComp elt [⟨tg, iter, ifs, 0⟩] scope pos) spos) (sAsg (eL (fLc it fg ft fe vs)) (gN i)) := by
  obtain ⟨t, h1, h2⟩ := ps_lc_of own vs hN hyl hl hany hi ok hv hg hsub ht he hs
  exact ⟨_, h1, fun d Pt hF => rs_asg (h2 d Pt hF).re (rg_name i)⟩
end
end DL
set_option Elab.async false
set_option linter.all false
set_option maxRecDepth 100000
set_option maxHeartbeats 400000
namespace DL
open PySem PySem.Spec PyProof.Rows L2
def DrLocal (Dr : Hp → Addr → Addr → Prop) : Prop := ∀ H H' d g, Dr H d g → H' d = H d → H' g = H g → Dr H' d g
def DrThere (Dr : Hp → Addr → Addr → Prop) : Prop := ∀ H d g, Dr H d g → (∃ o, H d = some o) ∧ ∃ o, H g = some o
def PotD (Dr : Hp → Addr → Addr → Prop) (d g : Addr) : Hp → Prop := fun Hq => Dr Hq d g ∧ ∀ a, a ≠ d → a ≠ g → Hq a = none
def famD (Dr : Hp → Addr → Addr → Prop) : Addr → (Hp → Prop) → Prop := fun d Pt => ∃ g, Pt = PotD Dr d g
abbrev pot : PyData := .dict []
def takeP : List PyData → Pp PyData := fun ds Q => ∃ m : Int, ds = [pot, .int m] ∧ 1 ≤ m ∧ m ≤ 1000000 ∧ ∀ r : Int, 0 ≤ r → r < m → Q (.int r)
def spTk (Dr : Hp → Addr → Addr → Prop) : Sp := fun vs H Q _ => ∃ (d g : Addr) (m : Int), vs = [.ref d, .int m] ∧ Dr H d g ∧ 1 ≤ m ∧ m ≤ 1000000 ∧ ∀ (r : Int) (H' : Hp), 0 ≤ r → r < m → Dr H' d g → (∀ b o, H b = some o → b ≠ d → b ≠ g → H' b = some o) → Q (.int r) H'
open Classical in
theorem pot_split {Dr : Hp → Addr → Addr → Prop} (loc : DrLocal Dr) {H H' Hs Hr : Hp} {d g : Addr} {K : PySem.W.Frag} (g0 : G ⟨K, d, PotD Dr d g⟩ Hr H Hs) (th : DrThere Dr) (D : Dr H' d g) (kp : ∀ b o, H b = some o → b ≠ d → b ≠ g → H' b = some o) :
    ∃ Hs', G ⟨K, d, PotD Dr d g⟩ Hr H' Hs' ∧ Same Hs Hs' := by
  obtain ⟨Hq, j, hq, hn⟩ := g0
  obtain ⟨⟨od, hd⟩, ⟨og, hg⟩⟩ := th _ _ _ hq
  have nd : ∀ {a o}, Hq a = some o → Hs a = none ∧ Hr a = none := fun {a o} e => by
    rcases j a with ⟨_, h1, _⟩ | ⟨_, h1, h2⟩ | ⟨_, _, h1⟩
    · rw [e] at h1; cases h1
    · exact ⟨h1, h2⟩
    · rw [e] at h1; cases h1
  let Hq' : Hp := fun a => if a = d ∨ a = g then H' a else none
  let Hs' : Hp := fun a => if a = d ∨ a = g then none else if Hr a = none then H' a else none
  have dg : ∀ {a : Addr}, (a = d ∨ a = g) → Hr a = none := fun {a} e => by
    rcases e with rfl | rfl
    · exact (nd hd).2
    · exact (nd hg).2
  have rest : ∀ a o, Hr a = some o → H' a = some o := fun a o e => kp a o (j.visr _ _ e) (fun z => by subst z; rw [dg (.inl rfl)] at e; cases e) (fun z => by subst z; rw [dg (.inr rfl)] at e; cases e)
  refine ⟨Hs', ⟨Hq', fun a => ?_, loc H' Hq' d g D (by simp [Hq']) (by simp [Hq']), fun a h1 h2 => by simp [Hq', h1, h2]⟩, fun a o e => ?_⟩
  · by_cases e : a = d ∨ a = g
    · exact .inr (.inl ⟨by simp [Hq', e], by simp [Hs', e], dg e⟩)
    · cases er : Hr a with
      | none => exact .inl ⟨by simp [Hs', e, er], by simp [Hq', e], rfl⟩
      | some o => exact .inr (.inr ⟨by rw [rest a o er], by simp [Hs', e, er], by simp [Hq', e]⟩)
  · have h1 : a ≠ d := fun z => by subst z; rw [(nd hd).1] at e; cases e
    have h2 : a ≠ g := fun z => by subst z; rw [(nd hg).1] at e; cases e
    have hr : Hr a = none := by
      rcases j.sr a with z | z
      · rw [e] at z; cases z
      · exact z
    have := kp a o (j.vis _ _ e) h1 h2
    simp [Hs', h1, h2, hr, this]
section
variable {P : Program} {w : World} {K : PySem.W.Frag} {mg : Str → Option Value} {base : Heap}
theorem take_x {Dr : Hp → Addr → Addr → Prop} (loc : DrLocal Dr) (th : DrThere Dr) {n : Nat} {f : Addr} {fd : FuncData} {ps : List Str} (F : FnOk P w K mg base CX0 n f fd ps (spTk Dr)) : FnOk P w K mg base CX0 n f fd ps (spX K (famD Dr) takeP) :=
  F.imp fun vs H Q E h => by
    obtain ⟨d, Pt, ⟨g, rfl⟩, Hs, Hr, ds, Q0, g0, c, ⟨m, rfl, m1, m2, hq⟩, k⟩ := h
    obtain ⟨x, y, rfl, c1, c2⟩ := c.two
    cases Dv.i_int c2
    have c1 : x = .ref d := c1
    subst c1
    obtain ⟨Hq, j, pq, pn⟩ := id g0
    have D : Dr H d g := loc Hq H d g pq (by obtain ⟨⟨o, e⟩, _⟩ := th _ _ _ pq; rw [e]; exact j.visq _ _ e) (by obtain ⟨_, ⟨o, e⟩⟩ := th _ _ _ pq; rw [e]; exact j.visq _ _ e)
    refine ⟨d, g, m, rfl, D, m1, m2, fun r H' r0 r1 D' kp => ?_⟩
    obtain ⟨Hs', g', s'⟩ := pot_split loc g0 th D' kp
    exact k _ _ H' Hs' (hq r r0 r1) g' s' (CRel.of (.int r))
def spLaw (K : PySem.W.Frag) : Sp := fun vs H Q _ => ∃ (a : Addr) (ns : List Int), vs = [.ref a] ∧ SqL K H a (ns.map V.int) ∧ ns.length ≤ 63 ∧ ∀ H', Q (.bl true) H'
def spPt (K : PySem.W.Frag) (Dr : Hp → Addr → Addr → Prop) (salt : Int) : Sp := fun vs H Q _ => ∃ (a : Addr) (ns : List Int), vs = [.ref a, .int salt] ∧ SqL K H a (ns.map V.int) ∧ ns.length ≤ 63 ∧ ∀ (d g : Addr) (H' : Hp), Same H H' → Dr H' d g → H d = none → H g = none → Q (.ref d) H'
def ρLaw (n : Nat) : Env := none :: some (.dat pot) :: List.replicate n none
abbrev eLaw : En := ⟨fun _ => False, fun d => d = .bool true, fun _ => False, fun _ => False, fun _ => False⟩
open Classical in
theorem pot_start {Dr : Hp → Addr → Addr → Prop} (loc : DrLocal Dr) {H : Hp} {d g : Addr} (D : Dr H d g) : ∃ Hr, G ⟨K, d, PotD Dr d g⟩ Hr H e0 := by
  refine ⟨fun a => if a = d ∨ a = g then none else H a, fun a => if a = d ∨ a = g then H a else none, fun a => ?_, loc H _ d g D (by simp) (by simp), fun a h1 h2 => by simp [h1, h2]⟩
  by_cases e : a = d ∨ a = g
  · exact .inr (.inl ⟨by simp [e], rfl, by simp [e]⟩)
  · exact .inr (.inr ⟨by simp [e], rfl, by simp [e]⟩)
end
theorem sw_false {elt : Expr} {gs : List Comprehension} {scope : Scope} {pos py : Pos} {y : Str} {l : Nat} {env : PySem.Env} (hk : env.scope.kind = .function) (hy : env.scope.names.lookup y = some .cell) : swapsWith (.ListComp elt gs scope pos) (some (.Name y py)) l env = pure false := by
  have ky : env.kindOf y = some .cell := hy
  have hb : env.blockKind = .function := by unfold Env.blockKind; rw [hk]; rfl
  unfold swapsWith
  simp only [hb, ky]
  rfl
end DL
set_option Elab.async false
set_option linter.all false
set_option maxRecDepth 100000
set_option maxHeartbeats 400000
namespace DL
open PySem PySem.Spec PyProof.Rows L2
structure Tx (mg : Str → Option Value) : Prop where
  len : mg "len" = none
  abs : mg "abs" = none
  range : mg "range" = none
  sorted : mg "sorted" = none
  tuple : mg "tuple" = none
  int : mg "int" = none
  all : mg "all" = none
  any : mg "any" = none
  isinstance : mg "isinstance" = none
  bool : mg "bool" = none
  list : mg "list" = none
  sum : mg "sum" = none
  min : mg "min" = none
  max : mg "max" = none
  enumerate : mg "enumerate" = none
  zip : mg "zip" = none
  set : mg "set" = none
  str : mg "str" = none
theorem none_fn {P : Program} {w : World} {K : PySem.W.Frag} {mg : Str → Option Value} {base : Heap} {CX : CXT} {f : Addr} {fd : FuncData} {ps : List Str} {sp : Sp} {k : Nat} (no : ∀ vs H Q E, ¬ sp vs H Q E) : FnOk P w K mg base CX k f fd ps sp :=
  ⟨fun vs H Q E h => absurd h (no vs H Q E), fun A outer s H args us vs Q E _ _ _ _ h => absurd h (no vs H Q E)⟩
section
variable {κ : Kx} {a b c e : Expr} {es : List Expr} {fa fb fc fe : Env → Pp PyData} {fs : Env → Pp (List PyData)} {pos p p1 p2 : Pos}
def eTR (fs : Env → Pp (List PyData)) : Env → Pp PyData := fun ρ => bnd (fs ρ) fun ds => match ds with
  | [.int j] => fun Q => (0 ≤ j ∧ j ≤ 1000) ∧ Q (.tuple (rangeD 0 j.toNat))
  | _ => fail
def eCount (fa fb : Env → Pp PyData) : Env → Pp PyData := fun ρ => bnd (fa ρ) fun a => match a with
  | .list xs => bnd (fb ρ) fun b => fun Q => (flatD b = true ∧ xs.all flatD = true) ∧ Q (.int ((xs.countP fun z => PyData.eqv z b : Nat) : Int))
  | _ => fail
theorem ps_lcC_of {elt tg iter : Expr} {ifs : List Expr} {scope : Scope} {i : Nat} {y : Str} {py : Pos} {spos : Pos} {f : Env → Pp (List PyData)} (hN : κ.N[i]? = some y) (hyl : κ.nm.lookup y = some .cell) (hf : κ.fc y = true)
    (hx : XF κ (.ListComp elt [⟨tg, iter, ifs, 0⟩] scope pos) f) : ∃ t, (∀ X, Cn κ X → PS X (.Assign [.Name y py] (.ListComp elt [⟨tg, iter, ifs, 0⟩] scope pos) spos) (tAsg t (gName i))) ∧ ∀ d Pt, κ.fam d Pt → RF (κ.W d Pt) t f :=
  let ⟨_, h1, r1⟩ := hx; ⟨_, fun X h => ps_set (by rw [h.nn]; exact h.nd) (by rw [h.nn]; exact hN) (by unfold L2.Loc; rw [h.names]; exact .inr hyl) (h1 X h) (sw_false h.kind (by rw [h.names]; exact hyl)) (.inl (h.fn y hf)), r1⟩
theorem xs_lcC {elt tg iter : Expr} {ifs : List Expr} {scope : Scope} (i : Nat) {y : Str} {py : Pos} {spos : Pos} {it : Env → Pp (List PyData)} {is : List Nat} {fg : PyData → Env → Pp Env} {ft : Env → Pp Bool} (own : List (Str × Nat)) (vs : List Nat)
    (hi : XI κ tg iter it) (ok : blkC κ.N { kind := .function, names := κ.nm, isGenerator := false, isCoroutine := false } scope own = true) (hv : own.map (·.2) = vs) (hg : XG (κ.blk scope) tg is fg) (hsub : (is.all fun i => vs.contains i) = true) (ht : XTs (κ.blk scope) ifs ft) (he : XE (κ.blk scope) elt fe)
    (hs : ∀ (env : PySem.Env) x, foldedSetIterable iter env x = pure x := by intro _ _; rfl) (hN : κ.N[i]? = some y := by rfl) (hyl : κ.nm.lookup y = some .cell := by rfl) (hf : κ.fc y = true := by rfl) :
    XS κ (.Assign [.Name y py] (.ListComp elt [⟨tg, iter, ifs, 0⟩] scope pos) spos) (sAsg (eL (fLc it fg ft fe vs)) (gN i)) := by
  obtain ⟨t, h1, h2⟩ := ps_lcC_of (py := py) (spos := spos) hN hyl hf (xf_lc (pos := pos) own vs hi ok hv hg hsub ht he hs)
  exact ⟨_, h1, fun d Pt hF => rs_asg (h2 d Pt hF).re (rg_name i)⟩
def iZp (fs : Env → Pp (List PyData)) : Env → Pp (List PyData) := fun ρ => bnd (fs ρ) fun ds => match ds with
  | [.list xs, .list ys] => fun Q => xs.length = ys.length ∧ Q (zipD xs ys)
  | [.tuple xs, .tuple ys] => fun Q => xs.length = ys.length ∧ Q (zipD xs ys)
  | _ => fail
theorem zipD_len {xs ys : List PyData} (h : xs.length = ys.length) : (zipD xs ys).length = xs.length := by simp [zipD, h]
theorem itz_ok {W : Wd} {Hs : Hp} {a b : Addr} {xs ys : List V} {ds es : List PyData} (hp : SqL W.K Hs a xs) (hp' : SqL W.K Hs b ys) (z : xs.length ≤ sizeLine) (qa : DvAll W.K Hs xs ds) (qb : DvAll W.K Hs ys es) (hl : ds.length = es.length) : ItOk W (Itz W.K a b) Hs (zipD ds es) where
  small := by rw [zipD_len hl, ← qa.length]; exact z
  go := fun i Hr H' Hs' hi g' s' => by
    rw [zipD_len hl] at hi
    obtain ⟨v, d, e1, _, _⟩ := qa.at hi
    obtain ⟨u, d', e2, _, _⟩ := qb.at (hl ▸ hi)
    exact ⟨xs, ys, v, u, Same.lst' g'.vis (Same.lst' s' hp), Same.lst' g'.vis (Same.lst' s' hp'), e1, e2⟩
  yld := by
    rintro i Hr H' Hs' x H2 g' s' hi ⟨T, v, u, rfl, hT, rfl, y⟩
    rw [zipD_len hl] at hi
    obtain ⟨v', d, e1, f1, q1⟩ := qa.at hi
    obtain ⟨u', d', e2, f2, q2⟩ := qb.at (hl ▸ hi)
    have ev : v = v' := by have := y.1 xs (Same.lst' g'.vis (Same.lst' s' hp)); rw [e1] at this; exact (Option.some.inj this).symm
    have eu : u = u' := by have := y.2 ys (Same.lst' g'.vis (Same.lst' s' hp')); rw [e2] at this; exact (Option.some.inj this).symm
    subst ev eu
    have sn := Same.new (o := .tup [v, u]) (g'.new hT)
    exact ⟨upd Hs' T _, _, g'.alloc hT, sn, zipD_get f1 f2, CRel.of (.tup (SqT.of upd_same) (by show 2 ≤ sizeLine; decide) (.cons ((q1.mono s').mono sn) (.cons ((q2.mono s').mono sn) .nil)))⟩
  stop := fun i Hr H' Hs' hi g' s' => ⟨xs, ys, Same.lst' g'.vis (Same.lst' s' hp), Same.lst' g'.vis (Same.lst' s' hp'), .inl (by rw [zipD_len hl] at hi; rw [qa.length]; exact hi)⟩
theorem itzt_ok {W : Wd} {Hs : Hp} {a b : Addr} {xs ys : List V} {ds es : List PyData} (hp : SqT W.K Hs a xs) (hp' : SqT W.K Hs b ys) (z : xs.length ≤ sizeLine) (qa : DvAll W.K Hs xs ds) (qb : DvAll W.K Hs ys es) (hl : ds.length = es.length) : ItOk W (Itzt W.K a b) Hs (zipD ds es) where
  small := by rw [zipD_len hl, ← qa.length]; exact z
  go := fun i Hr H' Hs' hi g' s' => by
    rw [zipD_len hl] at hi
    obtain ⟨v, d, e1, _, _⟩ := qa.at hi
    obtain ⟨u, d', e2, _, _⟩ := qb.at (hl ▸ hi)
    exact ⟨xs, ys, v, u, Same.tup' (s'.trans g'.vis) hp, Same.tup' (s'.trans g'.vis) hp', e1, e2⟩
  yld := by
    rintro i Hr H' Hs' x H2 g' s' hi ⟨T, v, u, rfl, hT, rfl, y⟩
    rw [zipD_len hl] at hi
    obtain ⟨v', d, e1, f1, q1⟩ := qa.at hi
    obtain ⟨u', d', e2, f2, q2⟩ := qb.at (hl ▸ hi)
    have ev : v = v' := by have := y.1 xs (Same.tup' (s'.trans g'.vis) hp); rw [e1] at this; exact (Option.some.inj this).symm
    have eu : u = u' := by have := y.2 ys (Same.tup' (s'.trans g'.vis) hp'); rw [e2] at this; exact (Option.some.inj this).symm
    subst ev eu
    have sn := Same.new (o := .tup [v, u]) (g'.new hT)
    exact ⟨upd Hs' T _, _, g'.alloc hT, sn, zipD_get f1 f2, CRel.of (.tup (SqT.of upd_same) (by show 2 ≤ sizeLine; decide) (.cons ((q1.mono s').mono sn) (.cons ((q2.mono s').mono sn) .nil)))⟩
  stop := fun i Hr H' Hs' hi g' s' => ⟨xs, Same.tup' (s'.trans g'.vis) hp, by rw [zipD_len hl] at hi; rw [qa.length]; exact hi⟩
theorem ri_zip {W : Wd} {ta : TA} (ha : RA W ta fs) : RI W (iZipA W.K ta) (iZp fs) := fun σ H Hs Hr ρ R Q0 g er h k =>
  ha σ H Hs Hr ρ _ _ g er h fun ds vs H1 Hs1 h1 g1 s1 c1 => by
    dsimp only at h1
    split at h1
    · obtain ⟨x, y, rfl, c2, c3⟩ := c1.two
      obtain ⟨hl, q⟩ := h1
      obtain ⟨p, xs, rfl, hp, z, qa⟩ := Dv.i_list c2
      obtain ⟨p', xs', rfl, hp', z', qa'⟩ := Dv.i_list c3
      exact ⟨p, p', xs, xs', rfl, .inl ⟨Same.lst' g1.vis hp, Same.lst' g1.vis hp', k _ _ H1 Hs1 q g1 s1 (itz_ok hp hp' z qa qa' hl)⟩⟩
    · obtain ⟨x, y, rfl, c2, c3⟩ := c1.two
      obtain ⟨hl, q⟩ := h1
      obtain ⟨p, xs, rfl, hp, z, qa⟩ := Dv.i_tup c2
      obtain ⟨p', xs', rfl, hp', z', qa'⟩ := Dv.i_tup c3
      exact ⟨p, p', xs, xs', rfl, .inr ⟨Same.tup' g1.vis hp, Same.tup' g1.vis hp', k _ _ H1 Hs1 q g1 s1 (itzt_ok hp hp' z qa qa' hl)⟩⟩
    · exact (h1 : False).elim
theorem xi_zip {elts : List Expr} {kk : Nat} (hm : κ.mg "zip" = none) (ha : XA κ [a, b] fs) (hg : κ.nm.lookup ("zip" : Str) = some .globalImplicit := by rfl) (hs : ∀ env : PySem.Env, starEach [a, b] env = (false, eval a env) :: starEach [b] env := by intro _; rfl) (hpl : ∀ env : PySem.Env, (backTo pos (starEach [b] env)).any (·.1) = false := by intro _; rfl) : XI κ (.Tuple elts kk p1) (.Call (.Name "zip" p) [a, b] [] pos) (iZp fs) :=
  let ⟨_, h1, r1⟩ := ha; ⟨_, fun X h => by have := pi_zipA (p := p) (pos := pos) (tpos := p1) (elts := elts) (kk := kk) (gl_of h hg) (by rw [h.mg]; exact hm) (h1 X h) (hs _) (hpl _); rw [h.kk] at this; exact this, fun d Pt hF => ri_zip (W := κ.W d Pt) (r1 d Pt hF)⟩
end
end DL
set_option Elab.async false
set_option linter.all false
set_option maxRecDepth 100000
set_option maxHeartbeats 400000
namespace DL
open PySem PySem.Spec PyProof.Rows L2
def lcGo2 (g : PyData → Env → Pp Env) (ft : Env → Pp Bool) (it1 : Env → Pp (List PyData)) (g1 : PyData → Env → Pp Env) (ft1 : Env → Pp Bool) (fe : Env → Pp PyData) (vs1 : List Nat) (ρ : Env) : List PyData → List PyData → Pp (List PyData)
  | acc, [] => ret acc
  | acc, d :: r => bnd (g d ρ) fun ρ2 => bnd (ft ρ2) fun b => if b = true then bnd (it1 ρ2) fun es => fun Q => (acc.length + es.length ≤ sizeLine) ∧ lcGo g1 ft1 fe (wipeE ρ2 vs1) es (fun ys => lcGo2 g ft it1 g1 ft1 fe vs1 ρ (acc ++ ys) r Q) else lcGo2 g ft it1 g1 ft1 fe vs1 ρ acc r
def fLc2 (it : Env → Pp (List PyData)) (g : PyData → Env → Pp Env) (ft : Env → Pp Bool) (it1 : Env → Pp (List PyData)) (g1 : PyData → Env → Pp Env) (ft1 : Env → Pp Bool) (fe : Env → Pp PyData) (vs vs1 : List Nat) : Env → Pp (List PyData) := fun ρ => bnd (it ρ) fun ds => lcGo2 g ft it1 g1 ft1 fe vs1 (wipeE ρ vs) [] ds
section
variable {W : Wd}
theorem rf_lc2 {wi wi1 : TI} {it it1 : Env → Pp (List PyData)} {g g1 : TG} {is is1 : List Nat} {fg fg1 : PyData → Env → Pp Env} {tt tt1 : TT} {ft ft1 : Env → Pp Bool} {te : TE} {fe : Env → Pp PyData} {vs vs1 : List Nat}
    (hi : RI W wi it) (hg : RG W g is fg) (hsub : ∀ i ∈ is, i ∈ vs) (ht : RT W tt ft) (hi1 : RI W wi1 it1) (hg1 : RG W g1 is1 fg1) (hsub1 : ∀ i ∈ is1, i ∈ vs1) (ht1 : RT W tt1 ft1) (he : RE W te fe) : RF W (tLc2 wi g tt wi1 g1 tt1 te vs vs1) (fLc2 it fg ft it1 fg1 ft1 fe vs vs1) := fun σ H Hs Hr ρ Q Q0 gg er h k =>
  hi σ H Hs Hr ρ _ _ gg er h fun ds I H1 Hs1 h1 g1' s1 ok => by
    intro D hD
    have hrD : Hr D = none := g1'.newr hD
    have er1 := (er.mono s1).wipe vs
    refine ⟨fun i m H => m = ds.length - i ∧ i ≤ ds.length ∧ ∃ Hs2 acc accd, G W (upd Hr D (.lst acc)) H Hs2 ∧ Same Hs1 Hs2 ∧ acc.length ≤ sizeLine ∧ DvAll W.K Hs2 acc accd ∧ lcGo2 fg ft it1 fg1 ft1 fe vs1 (wipeE ρ vs) accd (ds.drop i) Q0,
      ⟨_, rfl, Nat.zero_le _, Hs1, [], [], g1'.allocr hD, Same.refl _, Nat.zero_le _, .nil, h1⟩, ?_⟩
    rintro i m H' ⟨rfl, hile, Hs2, acc, accd, g2, s2, hacc, hda, hgo⟩
    by_cases hlt : i < ds.length
    · obtain ⟨d, hd⟩ : ∃ d, ds[i]? = some d := ⟨ds[i], List.getElem?_eq_getElem hlt⟩
      refine .inr ⟨ok.go i _ H' Hs2 hlt g2 s2, fun H => ds.length - (i + 1) = ds.length - (i + 1) ∧ i + 1 ≤ ds.length ∧ ∃ Hs2 acc accd, G W (upd Hr D (.lst acc)) H Hs2 ∧ Same Hs1 Hs2 ∧ acc.length ≤ sizeLine ∧ DvAll W.K Hs2 acc accd ∧ lcGo2 fg ft it1 fg1 ft1 fe vs1 (wipeE ρ vs) accd (ds.drop (i + 1)) Q0, fun H'' z => ⟨ds.length - (i + 1), by omega, z⟩, fun x Hx y => ?_⟩
      obtain ⟨Hs3, d', g3, s3, hd', c3⟩ := ok.yld i _ H' Hs2 x Hx g2 s2 hlt y
      rw [hd] at hd'
      cases hd'
      rw [drop_cons hd] at hgo
      refine hg x d (L2.wipe σ vs) Hx Hs3 _ (wipeE ρ vs) _ _ g3 c3 hgo fun σ2 ρ2 st hgo2 => ?_
      refine ⟨by rw [st.wipe hsub, wipe_idem], ?_⟩
      have er2 : ER W Hs3 σ2 ρ2 := st.er ((er1.mono s2).mono s3)
      refine ht σ2 Hx Hs3 _ ρ2 _ _ g3 er2 hgo2 fun b H4 Hs4 h4 g4 s4 => ?_
      rcases ite_run h4 with ⟨eb, h4⟩ | ⟨eb, h4⟩
      · rw [if_pos eb]
        refine hi1 σ2 H4 Hs4 _ ρ2 _ _ g4 (er2.mono s4) h4 fun es I1 H5 Hs5 h5 g5 s5 ok1 => ?_
        obtain ⟨hz, h5⟩ := h5
        have ss5 := ((s2.trans s3).trans s4).trans s5
        have er5 := ((er2.mono s4).mono s5).wipe vs1
        refine ⟨fun j kk H => kk = es.length - j ∧ j ≤ es.length ∧ ∃ Hs6 acc1 accd1, G W (upd Hr D (.lst acc1)) H Hs6 ∧ Same Hs5 Hs6 ∧ acc1.length ≤ acc.length + j ∧ DvAll W.K Hs6 acc1 accd1 ∧ lcGo fg1 ft1 fe (wipeE ρ2 vs1) (es.drop j) (fun ys => lcGo2 fg ft it1 fg1 ft1 fe vs1 (wipeE ρ vs) (accd1 ++ ys) (ds.drop (i + 1)) Q0),
          ⟨_, rfl, Nat.zero_le _, Hs5, acc, accd, g5, Same.refl _, Nat.le_refl _, hda.mono ((s3.trans s4).trans s5), h5⟩, ?_⟩
        rintro j kk H6 ⟨rfl, hjle, Hs6, acc1, accd1, g6, s6, hacc1, hda1, hgo1⟩
        have hal : acc.length = accd.length := hda.length
        by_cases hjlt : j < es.length
        · obtain ⟨e, hee⟩ : ∃ e, es[j]? = some e := ⟨es[j], List.getElem?_eq_getElem hjlt⟩
          refine .inr ⟨ok1.go j _ H6 Hs6 hjlt g6 s6, fun H => es.length - (j + 1) = es.length - (j + 1) ∧ j + 1 ≤ es.length ∧ ∃ Hs6 acc1 accd1, G W (upd Hr D (.lst acc1)) H Hs6 ∧ Same Hs5 Hs6 ∧ acc1.length ≤ acc.length + (j + 1) ∧ DvAll W.K Hs6 acc1 accd1 ∧ lcGo fg1 ft1 fe (wipeE ρ2 vs1) (es.drop (j + 1)) (fun ys => lcGo2 fg ft it1 fg1 ft1 fe vs1 (wipeE ρ vs) (accd1 ++ ys) (ds.drop (i + 1)) Q0), fun H'' z => ⟨es.length - (j + 1), by omega, z⟩, fun x1 Hx1 y1 => ?_⟩
          obtain ⟨Hs7, e', g7, s7, he', c7⟩ := ok1.yld j _ H6 Hs6 x1 Hx1 g6 s6 hjlt y1
          rw [hee] at he'
          cases he'
          rw [drop_cons hee] at hgo1
          refine hg1 x1 e (L2.wipe σ2 vs1) Hx1 Hs7 _ (wipeE ρ2 vs1) _ _ g7 c7 hgo1 fun σ3 ρ3 st1 hgo3 => ?_
          refine ⟨by rw [st1.wipe hsub1, wipe_idem], ?_⟩
          have er7 : ER W Hs7 σ3 ρ3 := st1.er ((er5.mono s6).mono s7)
          refine ht1 σ3 Hx1 Hs7 _ ρ3 _ _ g7 er7 hgo3 fun b H8 Hs8 h8 g8 s8 => ?_
          rcases ite_run h8 with ⟨eb, h8⟩ | ⟨eb, h8⟩
          · rw [if_pos eb]
            refine he σ3 H8 Hs8 _ ρ3 _ _ g8 (er7.mono s8) h8 fun y v H9 Hs9 h9 g9 s9 c9 => ?_
            obtain ⟨np, h9⟩ := h9
            refine ⟨acc1, g9.visr _ _ upd_same, by omega, rfl, hjlt, Hs9, acc1 ++ [v], accd1 ++ [y], ?_, ((s6.trans s7).trans s8).trans s9, by rw [List.length_append, List.length_singleton]; omega, ?_, ?_⟩
            · have := g9.putr (p := D) (o := .lst (acc1 ++ [v])) upd_same
              rw [upd_upd] at this
              exact this
            · exact (hda1.mono ((s7.trans s8).trans s9)).append (.cons (c9.dv np) .nil)
            · simpa using h9
          · rw [if_neg eb]
            exact ⟨rfl, hjlt, Hs8, acc1, accd1, g8, (s6.trans s7).trans s8, by omega, hda1.mono (s7.trans s8), h8⟩
        · have e : es.drop j = [] := List.drop_eq_nil_of_le (by omega)
          rw [e] at hgo1
          have hq : lcGo2 fg ft it1 fg1 ft1 fe vs1 (wipeE ρ vs) accd1 (ds.drop (i + 1)) Q0 := by
            have : lcGo2 fg ft it1 fg1 ft1 fe vs1 (wipeE ρ vs) (accd1 ++ []) (ds.drop (i + 1)) Q0 := hgo1
            rwa [List.append_nil] at this
          exact .inl ⟨ok1.stop j _ H6 Hs6 (by omega) g6 s6, rfl, hlt, Hs6, acc1, accd1, g6, ss5.trans s6, by omega, hda1, hq⟩
      · rw [if_neg eb]
        exact ⟨rfl, hlt, Hs4, acc, accd, g4, (s2.trans s3).trans s4, hacc, hda.mono (s3.trans s4), h4⟩
    · have e : ds.drop i = [] := List.drop_eq_nil_of_le (by omega)
      rw [e] at hgo
      exact .inl ⟨ok.stop i _ H' Hs2 (by omega) g2 s2, k accd D acc H' Hs2 hgo hrD g2 (s1.trans s2) hacc hda⟩
def sRev (i : Nat) : Sm := fun E ρ => ∃ ds, ρ[i]? = some (some (.own ds)) ∧ E.nx (ρ.set i (some (.own ds.reverse)))
theorem DvAll.rev {K : PySem.W.Frag} {H : Hp} {vs : List V} {ds : List PyData} (h : DvAll K H vs ds) : DvAll K H vs.reverse ds.reverse := by
  induction vs generalizing ds with
  | nil => cases h; exact .nil
  | cons v r ih =>
    cases h with
    | cons a b =>
      rw [List.reverse_cons, List.reverse_cons]
      exact (ih b).append (.cons a .nil)
def sExt (i : Nat) (fe : Env → Pp PyData) : Sm := fun E ρ => ∃ ds, ρ[i]? = some (some (.own ds)) ∧ fe ρ fun d => ∃ es, d = .list es ∧ ds.length + es.length ≤ sizeLine ∧ E.nx (ρ.set i (some (.own (ds ++ es))))
theorem rs_ext {te : TE} {fe : Env → Pp PyData} (i : Nat) (he : RE W te fe) : RS W (tDrop (tBM W.K "list" (rExtendS W.K) (tVar i) (tCons te tNil))) (sExt i fe) := fun D σ H Hs Hr ρ E s h c => by
  obtain ⟨Ho, s⟩ := s
  obtain ⟨ds, hi, h⟩ := h
  obtain ⟨p, xs, hv, hp, hz, ha⟩ := s.own.get i ds hi
  have hH : ∀ {H' Hs' : Hp}, G W (plus Ho Hr) H' Hs' → H' p = some (.lst xs) := fun g => g.visr _ _ (plus_l hp)
  refine ⟨_, hv, .inl ⟨rfl, xs, SqL.of (hH s.g)⟩, ?_⟩
  refine he σ H Hs _ ρ _ _ s.g s.er h fun d v H' Hs' q g' s' c' => ?_
  obtain ⟨es, rfl, hlt, q⟩ := q
  obtain ⟨b, zs, rfl, hb, hz', hb'⟩ := Dv.i_list c'
  have l1 := ha.length
  have l2 := hb'.length
  refine ⟨p, b, xs, zs, rfl, rfl, hH g', Same.lst' g'.vis hb, by omega, ?_⟩
  refine c.nx σ _ _ Hs' q ⟨_, (s.step g' s').put (ys := xs ++ zs) hi hv hp (by rw [List.length_append]; omega) ((ha.mono s').append hb')⟩ s'
def fMulL (fa : Env → Pp (List PyData)) (fb : Env → Pp PyData) : Env → Pp (List PyData) := fun ρ => bnd (fa ρ) fun a => bnd (fb ρ) fun b => fun Q => ∃ d k, a = [d] ∧ b = .int k ∧ 0 ≤ k ∧ k ≤ 1000 ∧ Q (List.replicate k.toNat d)
end
section
variable {κ : Kx} {a b c e : Expr} {es : List Expr} {fa fb fc fe : Env → Pp PyData} {fs : Env → Pp (List PyData)} {pos p p1 p2 : Pos}
theorem xf_lc2 {elt tg iter tg1 iter1 : Expr} {ifs ifs1 : List Expr} {scope : Scope} {it it1 : Env → Pp (List PyData)} {is is1 : List Nat} {fg fg1 : PyData → Env → Pp Env} {ft ft1 : Env → Pp Bool} (own : List (Str × Nat)) (vs vs1 : List Nat)
    (hi : XI κ tg iter it) (ok : blkC κ.N { kind := .function, names := κ.nm, isGenerator := false, isCoroutine := false } scope own = true) (hv : own.map (·.2) = vs) (hv1 : (vs1.all fun i => vs.contains i) = true) (hg : XG (κ.blk scope) tg is fg) (hsub : (is.all fun i => vs.contains i) = true) (ht : XTs (κ.blk scope) ifs ft)
    (hi1 : XI (κ.blk scope) tg1 iter1 it1) (hg1 : XG (κ.blk scope) tg1 is1 fg1) (hsub1 : (is1.all fun i => vs1.contains i) = true) (ht1 : XTs (κ.blk scope) ifs1 ft1) (he : XE (κ.blk scope) elt fe)
    (hs : ∀ (env : PySem.Env) x, foldedSetIterable iter env x = pure x := by intro _ _; rfl) (hs1 : ∀ (env : PySem.Env) x, foldedSetIterable iter1 env x = pure x := by intro _ _; rfl) : XF κ (.ListComp elt [⟨tg, iter, ifs, 0⟩, ⟨tg1, iter1, ifs1, 0⟩] scope pos) (fLc2 it fg ft it1 fg1 ft1 fe vs vs1) := by
  obtain ⟨_, i1, i2⟩ := hi
  obtain ⟨_, g1, g2⟩ := hg
  obtain ⟨_, t1, t2⟩ := ht
  obtain ⟨_, j1, j2⟩ := hi1
  obtain ⟨_, k1, k2⟩ := hg1
  obtain ⟨_, l1, l2⟩ := ht1
  obtain ⟨_, e1, e2⟩ := he
  subst hv
  have bo := blkOk_by ok
  refine ⟨_, fun X h => pe_lc2 (own := own) (vs1 := vs1) h.calm (by rw [h.nn]; exact h.nd) (i1 X h) ?_ (fun i hi => by simpa using List.all_eq_true.mp hv1 i hi) (fun s H C cl fp => g1 _ (h.blk bo.kind s H C cl fp)) (fun s H C cl fp => t1 _ (h.blk bo.kind s H C cl fp)) (fun s H C cl fp => j1 _ (h.blk bo.kind s H C cl fp)) (fun s H C cl fp => k1 _ (h.blk bo.kind s H C cl fp)) (fun s H C cl fp => l1 _ (h.blk bo.kind s H C cl fp)) (fun s H C cl fp => e1 _ (h.blk bo.kind s H C cl fp)) (hs _) hs1,
    fun d Pt hF => rf_lc2 (i2 d Pt hF) (g2 d Pt hF) (fun i hi => by simpa using List.all_eq_true.mp hsub i hi) (t2 d Pt hF) (j2 d Pt hF) (k2 d Pt hF) (fun i hi => by simpa using List.all_eq_true.mp hsub1 i hi) (l2 d Pt hF) (e2 d Pt hF)⟩
  rw [h.nn]
  exact ⟨bo.kind, bo.uniq, bo.ix, fun y hy e => by rw [h.names]; exact bo.free y hy e, bo.own⟩
theorem xs_ext (i : Nat) {x : Str} {apos cpos : Pos} (ha : XE κ e fe) (hN : κ.N[i]? = some x := by rfl) (hv : κ.nm.lookup x = some .local ∨ κ.nm.lookup x = some .cell ∨ κ.nm.lookup x = some .free := by first | exact .inl rfl | exact .inr (.inl rfl) | exact .inr (.inr rfl)) (hd : (x == ("__debug__" : Str)) = false := by decide) (hcd : (x == ("__classdict__" : Str)) = false := by decide)
    (hbase : ∀ env : PySem.Env, attributeBase (.Name x p) "extend" env (eval (.Name x p) env) = eval (.Name x p) env := by intro _; rfl)
    (hst : ∀ env : PySem.Env, starEach [e] env = [(false, eval e env)] := by intro _; rfl) (hline : (apos.endLine == cpos.line) = true := by rfl)
    (hsw : ∀ env : PySem.Env, swapsWith (.Call (.Attribute (.Name x p) "extend" apos) [e] [] cpos) none pos.line env = pure false := by intro _; rfl) :
    XS κ (.Expr (.Call (.Attribute (.Name x p) "extend" apos) [e] [] cpos) pos) (sExt i fe) := let ⟨_, h1, r1⟩ := ha; ⟨_, fun X h => by
      have hs1 : starEach [e] X.env = (false, eval e X.env) :: starEach [] X.env := hst X.env
      have hq := pe_bm (apos := apos) (cpos := cpos) PySem.F.plainAttrs_list PySem.F.slot_list_extend PySem.F.type_list_extend (mt_extendS (X := X)) (pe_var (pos := p) (by rw [h.nn]; exact hN) (vis_of h hv) hd hcd) (pa_cons (h1 X h) pa_nil hs1) (hbase _) (by rw [hs1]; rfl) hline hs1 rfl
      rw [h.kk] at hq
      exact ps_expr hq (hsw _), fun d Pt hF => rs_ext (W := κ.W d Pt) i (r1 d Pt hF)⟩
end
end DL
set_option Elab.async false
set_option linter.all false
set_option maxRecDepth 100000
set_option maxHeartbeats 400000
namespace DL
open PySem PySem.Spec PyProof.Rows L2
def sAsgSF (ff : Env → Pp (List PyData)) (i : Nat) : Sm := fun E ρ => ff (frzAll ρ) fun ds => noListAll ds = true ∧ E.nx (ρ.set i (some (.dat (.list ds))))
def spXF (K : PySem.W.Frag) (fam : Addr → (Hp → Prop) → Prop) (g : List PyData → Pp (List PyData)) : Sp := fun vs H Q _ => ∃ d Pt, fam d Pt ∧ ∃ Hs Hr ds Q0, G ⟨K, d, Pt⟩ Hr H Hs ∧ CAll ⟨K, d, Pt⟩ Hs vs ds ∧ g ds Q0 ∧
  ∀ es p ws H' Hs', Q0 es → Hr p = none → G ⟨K, d, Pt⟩ (upd Hr p (.lst ws)) H' Hs' → Same Hs Hs' → ws.length ≤ sizeLine → DvAll K Hs' ws es → Q (.ref p) H'
theorem rf_callX {K : PySem.W.Frag} {fam : Addr → (Hp → Prop) → Prop} {d : Addr} {Pt : Hp → Prop} (hF : fam d Pt) {g : List PyData → Pp (List PyData)} {t : TA} {fs : Env → Pp (List PyData)} (ha : RA ⟨K, d, Pt⟩ t fs) : RF ⟨K, d, Pt⟩ (tCall (spXF K fam g) [] E0 t) (eCallF g fs) := fun σ H Hs Hr ρ Q Q0 gg er h k =>
  ha σ H Hs Hr ρ _ _ gg er h fun ds vs H1 Hs1 h1 g1 s1 c1 => by
    rw [List.append_nil]
    exact ⟨d, Pt, hF, Hs1, Hr, ds, Q0, g1, c1, h1, fun es p ws H' Hs' q hn g' s' z a => k es p ws H' Hs' q hn g' (s1.trans s') z a⟩
section
variable {κ : Kx} {a b c e : Expr} {es : List Expr} {fa fb fc fe : Env → Pp PyData} {fs : Env → Pp (List PyData)} {pos p p1 p2 : Pos}
theorem xf_callM {n : Nat} {x : Str} {ps : List Str} {g : List PyData → Pp (List PyData)} (C : Callee κ.P κ.w κ.K κ.mg κ.base n x ps (spXF κ.K κ.fam g)) (ha : XA κ (e :: es) fs) (hk : n ≤ κ.k := by first | exact Nat.le_of_ble_eq_true rfl | (dsimp only; omega)) (hg : κ.nm.lookup x = some .globalImplicit := by rfl)
    (hdb : (x == ("__debug__" : Str)) = false := by decide) (he : ∀ env : PySem.Env, starEach (e :: es) env = (false, eval e env) :: starEach es env := by intro _; rfl) (hpl : ∀ env : PySem.Env, (backTo pos (starEach es env)).any (·.1) = false := by intro _; rfl) :
    XF κ (.Call (.Name x p) (e :: es) [] pos) (eCallF g fs) := let ⟨_, h1, r1⟩ := ha; ⟨_, x_call0 hk C hg h1 hdb he hpl, fun d Pt hF => rf_callX hF (r1 d Pt hF)⟩
end
section
variable {P : Program} {w : World} {K : PySem.W.Frag} {mg : Str → Option Value} {base : Heap}
theorem fn_okXF {x qual : Str} {st : Stmt} {f : Addr} {fd : FuncData} {N ps : List Str} {nm : List (Str × NameKind)} {k : Nat} {fam : Addr → (Hp → Prop) → Prop} {g : List PyData → Pp (List PyData)} {fb : Sm} (F : Fun K x qual st f fd) (S : FnScope N ps (defScope st)) (hnm : (defScope st).names = nm)
    (hg : ∀ ds Q, g ds Q → ds.length = ps.length ∧ fnPF (N.length - ps.length) fb ds Q) (hb : XSs (mkK P w K mg base k N nm fam) (defBody st) fb) : FnOk P w K mg base CX0 (k + 1) f fd ps (spXF K fam g) := by
  obtain ⟨t, h1, h2⟩ := hb
  refine F.ok S (fun vs H Q E h => ?_) (fun cdv A outer s H vs Q E hr h => ?_)
  · obtain ⟨d, Pt, hF, Hs, Hr, ds, Q0, j, c, hq, _⟩ := h
    rw [c.length, (hg ds Q0 hq).1]
  · obtain ⟨d, Pt, hF, Hs, Hr, ds, Q0, j, c, hq, k0⟩ := h
    obtain ⟨hl, hq⟩ := hg ds Q0 hq
    refine ⟨t, h1 _ (cn_start (x := x) S hnm hr), ?_⟩
    have hpl : ps.length ≤ N.length := by have := congrArg List.length S.pre; rw [List.length_take] at this; omega
    exact h2 d Pt hF _ _ H Hs Hr _ _ (sr_start (N := N) j c (by omega)) (by rw [hl]; exact hq) ⟨fun σ ρ H' Hs' e r q => False.elim e, fun d v H' Hs' e r q c => False.elim e, fun σ ρ H' Hs' e r q => False.elim e, fun σ ρ H' Hs' e r q => False.elim e, fun es p ws H' Hs' e hp g s z a => k0 es p ws H' Hs' e hp g s z a⟩
end
end DL
set_option Elab.async false
set_option linter.all false
set_option maxRecDepth 100000
set_option maxHeartbeats 400000
namespace DL
open PySem PySem.Spec PyProof.Rows L2
def dMin2 : List PyData → Option PyData
  | [.int i, .int j] => some (.int (if j < i then j else i))
  | _ => none
def dMax2 : List PyData → Option PyData
  | [.int i, .int j] => some (.int (if j > i then j else i))
  | _ => none
section
variable {κ : Kx} {a b c e : Expr} {es : List Expr} {fa fb fc fe : Env → Pp PyData} {fs : Env → Pp (List PyData)} {pos p p1 p2 : Pos} {tg : Expr}
end
def dIsB : PyData → PyData → Option PyData
  | .bool a, .bool b => some (.bool (a == b))
  | _, _ => none
def dNotB : PyData → PyData → Option PyData
  | .bool a, .bool b => some (.bool (!(a == b)))
  | _, _ => none
section
variable {κ : Kx} {a b c e : Expr} {es : List Expr} {fa fb fc fe : Env → Pp PyData} {fs : Env → Pp (List PyData)} {pos p p1 p2 : Pos} {tg : Expr}
end
end DL
set_option Elab.async false
set_option linter.all false
set_option maxRecDepth 100000
set_option maxHeartbeats 400000
namespace DL
open PySem PySem.Spec PyProof.Rows L2
def tStar (K : PySem.W.Frag) (te : TE) (t : TA) : TA := fun σ H Q => te σ H fun x H1 => ∃ p ys, x = .ref p ∧ (SqL K H1 p ys ∨ SqT K H1 p ys) ∧ t σ H1 fun zs H2 => Q (ys ++ zs) H2
def aStar (fa : Env → Pp PyData) (fs : Env → Pp (List PyData)) : Env → Pp (List PyData) := fun ρ => bnd (fa ρ) fun a => bnd (ofO (itemsD a)) fun xs => bnd (fs ρ) fun as => ret (xs ++ as)
theorem CAll.app {W : Wd} {H : Hp} : ∀ {xs ys : List V} {as bs : List PyData}, CAll W H xs as → CAll W H ys bs → CAll W H (xs ++ ys) (as ++ bs)
  | _, _, _, _, .nil, h => h
  | _, _, _, _, .cons a t, h => .cons a (CAll.app t h)
section
variable {κ : Kx} {a b c e : Expr} {es : List Expr} {fa fb fc fe : Env → Pp PyData} {fs : Env → Pp (List PyData)} {pos p p1 p2 : Pos} {tg : Expr}
end
def minL : Int → List Int → Int
  | m, [] => m
  | m, x :: r => minL (if x < m then x else m) r
def maxL : Int → List Int → Int
  | m, [] => m
  | m, x :: r => maxL (if x > m then x else m) r
def dMin : PyData → Option PyData
  | .list ds => match asInts ds with
    | some (n :: ns) => some (.int (minL n ns))
    | _ => none
  | _ => none
def dMax : PyData → Option PyData
  | .list ds => match asInts ds with
    | some (n :: ns) => some (.int (maxL n ns))
    | _ => none
  | _ => none
section
variable {κ : Kx} {a b c e : Expr} {es : List Expr} {fa fb fc fe : Env → Pp PyData} {fs : Env → Pp (List PyData)} {pos p p1 p2 : Pos} {tg : Expr}
end
def sAug (i : Nat) (fe : Env → Pp PyData) : Sm := fun E ρ => ∃ k, datAt ρ i = some (.int k) ∧ fe ρ fun d => ∃ j, d = .int j ∧ E.nx (ρ.set i (some (.dat (.int (k + j)))))
end DL
set_option Elab.async false
set_option linter.all false
set_option maxRecDepth 100000
set_option maxHeartbeats 400000
namespace DL
open PySem PySem.Spec PyProof.Rows L2
def tPar3 (i j k : Nat) (ta : TA) : TS := fun D σ H => ta σ H fun vs H1 => ∃ v w z, vs = [v, w, z] ∧ D.nx (((σ.set i (some v)).set j (some w)).set k (some z)) H1
def sPar2 (i j : Nat) (fs : Env → Pp (List PyData)) : Sm := fun E ρ => fs ρ fun ds => ∃ a b, ds = [a, b] ∧ E.nx ((ρ.set i (some (.dat a))).set j (some (.dat b)))
def sPar3 (i j k : Nat) (fs : Env → Pp (List PyData)) : Sm := fun E ρ => fs ρ fun ds => ∃ a b c, ds = [a, b, c] ∧ E.nx (((ρ.set i (some (.dat a))).set j (some (.dat b))).set k (some (.dat c)))
section
variable {κ : Kx} {a b c : Expr} {fs : Env → Pp (List PyData)} {pos px py pz pt pt2 : Pos}
end
end DL
set_option Elab.async false
set_option linter.all false
set_option maxRecDepth 100000
set_option maxHeartbeats 400000
namespace DS
open PySem
def Ris (xs : Array Nat) : Prop := ∀ i k, i < k → k < xs.size → xs.getD i 0 < xs.getD k 0
theorem getD_any {xs : Array Nat} {i : Nat} (h : i < xs.size) (a b : Nat) : xs.getD i a = xs.getD i b := by simp [Array.getD, h]
theorem bel_go (xs : Array Nat) (j : Nat) (R : Ris xs) : ∀ (fu lo hi : Nat), hi - lo ≤ fu → lo ≤ hi → hi ≤ xs.size → (∀ i, i < lo → xs.getD i 0 < j) → (∀ i, hi ≤ i → i < xs.size → j ≤ xs.getD i 0) →
    (SetTable.below.go xs j fu lo hi ≤ xs.size ∧ (∀ i, i < SetTable.below.go xs j fu lo hi → xs.getD i 0 < j) ∧ ∀ i, SetTable.below.go xs j fu lo hi ≤ i → i < xs.size → j ≤ xs.getD i 0) := by
  intro fu
  induction fu with
  | zero =>
    intro lo hi h1 h2 h3 h4 h5
    have : lo = hi := by omega
    subst this
    exact ⟨h3, h4, h5⟩
  | succ fu ih =>
    intro lo hi h1 h2 h3 h4 h5
    unfold SetTable.below.go
    by_cases hl : lo < hi
    · rw [if_pos hl]
      dsimp only
      have hm : (lo + hi) / 2 < hi ∧ lo ≤ (lo + hi) / 2 := by omega
      generalize (lo + hi) / 2 = m at hm ⊢
      have hg := getD_any (xs := xs) (i := m) (by omega) j 0
      by_cases hx : xs.getD m j < j
      · rw [if_pos hx]
        refine ih (m + 1) hi (by omega) (by omega) h3 (fun i hi' => ?_) h5
        by_cases e : i = m
        · subst e; omega
        · have := R i m (by omega) (by omega); omega
      · rw [if_neg hx]
        refine ih lo m (by omega) (by omega) (by omega) h4 fun i h6 h7 => ?_
        by_cases e : i = m
        · subst e; omega
        · have := R m i (by omega) h7; omega
    · rw [if_neg hl]
      have : lo = hi := by omega
      subst this
      exact ⟨h3, h4, h5⟩
theorem bel {xs : Array Nat} (R : Ris xs) (j : Nat) : SetTable.below xs j ≤ xs.size ∧ (∀ i, i < SetTable.below xs j → xs.getD i 0 < j) ∧ ∀ i, SetTable.below xs j ≤ i → i < xs.size → j ≤ xs.getD i 0 :=
  bel_go xs j R xs.size 0 xs.size (by omega) (Nat.zero_le _) (Nat.le_refl _) (fun i h => absurd h (Nat.not_lt_zero i)) (fun i h1 h2 => by omega)
theorem ris_toList {xs : Array Nat} : Ris xs ↔ xs.toList.Pairwise (· < ·) := by
  rw [List.pairwise_iff_getElem]
  refine ⟨fun R i k h1 h2 h3 => ?_, fun P i k h1 h2 => ?_⟩
  · have := R i k h3 (by simpa using h2)
    simp only [Array.length_toList] at h1 h2
    simpa [Array.getD, h1, h2] using this
  · have := P i k (by simpa using (by omega : i < xs.size)) (by simpa using h2) h1
    have h3 : i < xs.size := by omega
    simpa [Array.getD, h3, h2] using this
theorem ris_range (n : Nat) : Ris (Array.range n) := by
  rw [ris_toList]
  simpa [Array.toList_range] using List.pairwise_lt_range
theorem ins_toList {α : Type} (xs : Array α) (p : Nat) (x : α) : (SetTable.insertAt xs p x).toList = xs.toList.take p ++ x :: xs.toList.drop p := by
  unfold SetTable.insertAt
  have : List.take (xs.size - p) (List.drop p xs.toList) = List.drop p xs.toList := List.take_of_length_le (by simp)
  simp [this]
theorem ris_ins {xs : Array Nat} (R : Ris xs) {j : Nat} (h : xs[SetTable.below xs j]? ≠ some j) : Ris (SetTable.insertAt xs (SetTable.below xs j) j) := by
  obtain ⟨b1, b2, b3⟩ := bel R j
  generalize SetTable.below xs j = p at *
  have R' := ris_toList.mp R
  rw [ris_toList, ins_toList]
  have hlt : ∀ z ∈ xs.toList.drop p, j < z := fun z hz => by
    obtain ⟨i, hi, rfl⟩ := List.mem_iff_getElem.mp hz
    rw [List.length_drop, Array.length_toList] at hi
    rw [List.getElem_drop]
    have h3 := b3 (p + i) (by omega) (by omega)
    have h4 : p + i < xs.size := by omega
    simp only [Array.getD, h4, dite_true] at h3
    rw [Array.getElem_toList]
    rcases Nat.eq_or_lt_of_le h3 with e | e
    · cases i with
      | zero =>
        exfalso
        apply h
        rw [Array.getElem?_eq_getElem (by omega)]
        exact congrArg some e.symm
      | succ i =>
        have h5 := b3 p (Nat.le_refl _) (by omega)
        have h6 := R p (p + (i + 1)) (by omega) h4
        have h7 : p < xs.size := by omega
        simp only [Array.getD, h4, h7, dite_true] at h5 h6
        have e : j = xs[p + (i + 1)] := e
        omega
    · exact e
  refine List.pairwise_append.mpr ⟨R'.sublist (List.take_sublist _ _), List.pairwise_cons.mpr ⟨hlt, R'.sublist (List.drop_sublist _ _)⟩, fun a ha b hb => ?_⟩
  obtain ⟨i, hi, rfl⟩ := List.mem_iff_getElem.mp ha
  rw [List.length_take, Array.length_toList] at hi
  have h3 := b2 i (by omega)
  have h4 : i < xs.size := by omega
  simp only [Array.getD, h4, dite_true] at h3
  rw [List.getElem_take, Array.getElem_toList]
  rcases List.mem_cons.mp hb with rfl | hb
  · exact h3
  · have := hlt b hb; exact Nat.lt_trans h3 this
structure TOk (t : SetTable) (led : Bool) : Prop where
  ris : Ris t.place
  dum : t.dummies = #[]
  led : t.led = led
theorem TOk.stand {t : SetTable} {led : Bool} (h : TOk t led) (n : Nat) : TOk (t.standIn n) led := ⟨ris_range n, rfl, h.led⟩
theorem free_not {t : SetTable} {h : Int} (R : Ris t.place) (hd : t.dummies = #[]) : ∀ {slot : Nat} {b : Bool}, t.freeSlot h = some (slot, b) → t.place[SetTable.below t.place slot]? ≠ some slot := by
  intro slot b e
  have key : ∀ (fu : Nat) (p : SetTable.Probe) (j : Nat) (d : Option Nat), p.dummy = none → SetTable.probe.go t (fun _ => h + 1) h fu p = some (.empty j d) → d = none ∧ t.place[SetTable.below t.place j]? ≠ some j := by
    intro fu
    induction fu with
    | zero => intro p j d _ e; cases e
    | succ fu ih =>
      intro p j d hp e
      unfold SetTable.probe.go at e
      split at e
      · rename_i hs
        cases e
        refine ⟨hp, fun z => ?_⟩
        unfold SetTable.slot at hs
        dsimp only at hs
        rw [z] at hs
        simp at hs
      · rename_i hs
        exfalso
        unfold SetTable.slot at hs
        dsimp only at hs
        split at hs
        · cases hs
        · rw [hd] at hs
          simp [SetTable.has] at hs
      · rename_i i hs
        split at e
        · cases e
        · refine ih _ j d ?_ e
          unfold SetTable.advance
          split <;> exact hp
  unfold SetTable.freeSlot at e
  split at e
  · rename_i j d hp
    cases e
    obtain ⟨rfl, h2⟩ := key _ _ _ _ rfl hp
    exact h2
  · cases e
theorem TOk.put {t : SetTable} {led : Bool} (h : TOk t led) {j : Nat} (hj : t.place[SetTable.below t.place j]? ≠ some j) : TOk (t.put j).1 led := by
  refine ⟨ris_ins h.ris hj, ?_, h.led⟩
  show (if SetTable.has t.dummies j = true then _ else t.dummies) = #[]
  rw [h.dum]
  simp [SetTable.has]
theorem TOk.new {t : SetTable} {led : Bool} (h : TOk t led) (es : Array (Int × Value)) (hs : Int) (x : Value) : TOk (layNew t es hs x).2.1 led := by
  unfold layNew
  split
  · rename_i slot b e
    have := h.put (free_not h.ris h.dum e)
    show TOk ((t.put slot).1.orStandIn _) led
    unfold SetTable.orStandIn
    split
    · exact this
    · exact this.stand _
  · exact h.stand _
end DS
set_option Elab.async false
set_option linter.all false
set_option maxRecDepth 100000
set_option maxHeartbeats 400000
namespace DS
open PySem PySem.Spec PyProof.Rows
section
variable {prog : Program} {w : World} {K : Type} [DecidableEq K] [Inhabited K] (knd : PySem.KeyKind prog w K)
open Classical in
noncomputable def kf (e : Int × Value) : K := if h : ∃ k, knd.is k e.2 = true then h.choose else default
variable {knd}
variable (knd)
def SetS (h : Heap) (a : Addr) (σ : List K) (led : Bool) : Prop :=
  ∃ o es ep t, (h.get? a = some o ∧ o.ExactSet ∧ o.data = .set es ep t) ∧ ElemsOf knd es.toList ∧ (es.toList.map (kf knd)).Perm σ ∧ es.size < scanBound ∧ t.fits es.size = true ∧ TOk t led
variable {knd} {A : Around} {E : Value → Shared → Prop} {s : Shared}
theorem SetS.keep {h h' : Heap} {a : Addr} {σ : List K} {led : Bool} (x : SetS knd h a σ led) (e : ∀ o, h.get? a = some o → h'.get? a = some o) : SetS knd h' a σ led :=
  let ⟨o, es, ep, t, ⟨h1, h2⟩, r⟩ := x; ⟨o, es, ep, t, ⟨e o h1, h2⟩, r⟩
def addK (σ : List K) (k : K) : List K := if k ∈ σ then σ else σ ++ [k]
def firstK (val : Nat → K) (i : Nat) : List K := ((List.range i).map val).foldl addK []
end
section
variable {prog : Program} {w : World} {K : Type} [DecidableEq K] [Inhabited K] {knd : PySem.KeyKind prog w K} {A : Around} {R : Result → Shared → Prop} {I : Addr} {fp wr : List Addr} {G : Array GenState → Array GenState → Prop} {n : Nat} {P : Nat → Value → Prop} {St : Nat → Shared → Prop}
end
end DS
set_option Elab.async false
set_option linter.all false
set_option maxRecDepth 100000
set_option maxHeartbeats 3200000
namespace DS
open PySem PySem.Spec PyProof.Rows
def byT (w : World) : Bool := w.params.followText "set-order"
abbrev newS (led : Bool) : Obj := { cls := .type "set", dict := none, data := .set #[] 0 (.fresh 0 0 led) }
section
variable {prog : Program} {w : World} {K : Type} [DecidableEq K] [Inhabited K] {knd : PySem.KeyKind prog w K} {A : Around} {E : Value → Shared → Prop} {s : Shared}
end
end DS
set_option Elab.async false
set_option linter.all false
set_option maxRecDepth 100000
set_option maxHeartbeats 1600000
namespace DS
open PySem PySem.Spec PyProof.Rows
section
variable {prog : Program} {w : World} {A : Around} {E : Value → Shared → Prop} {s : Shared}
end
end DS
set_option Elab.async false
set_option linter.all false
set_option maxRecDepth 100000
set_option maxHeartbeats 1600000
namespace DS
open PySem PySem.Spec PyProof.Rows
def Itr (h : Heap) (I : Addr) (f0 : Value) (i : Nat) (S : Addr) (n ep : Nat) : Prop := h.get? I = some { cls := .type "set_iterator", dict := none, data := .fields #[f0, rawInt i, .ref S, rawInt n, rawInt ep], slots := #[] }
theorem Itr.ty {s : Shared} {I S : Addr} {f0 : Value} {i n ep : Nat} (h : Itr s.heap I f0 i S n ep) : s.TypeIs (.ref I) "set_iterator" := ⟨_, h, rfl⟩
section
variable {prog : Program} {w : World} {A : Around} {E : Value → Shared → Prop} {s : Shared} {I S : Addr} {o : Obj} {es : Array (Int × Value)} {ep : Nat} {t : SetTable} {i : Nat}
end
end DS
set_option Elab.async false
set_option linter.all false
set_option maxRecDepth 100000
set_option maxHeartbeats 1600000
namespace DS
open PySem PySem.Spec PyProof.Rows
section
variable {prog : Program} {w : World} {A : Around} {E : Value → Shared → Prop} {s : Shared} {S : Addr} {o : Obj} {es : Array (Int × Value)} {ep : Nat} {t : SetTable}
theorem Itr.same {h h' : Heap} {I : Addr} {f0 : Value} {i n ep : Nat} (x : Itr h I f0 i S n ep) (e : ∀ o, h.get? I = some o → h'.get? I = some o) : Itr h' I f0 i S n ep := e _ x
def slotAt (t : SetTable) : Nat → Nat
  | 0 => 0
  | i + 1 => t.place.getD i 0 + 1
end
end DS
set_option Elab.async false
set_option linter.all false
set_option maxRecDepth 100000
set_option maxHeartbeats 1600000
namespace DS
open PySem PySem.Spec PyProof.Rows
section
variable {prog : Program} {w : World} {A : Around} {E : Value → Shared → Prop} {s : Shared} {S : Addr} {o : Obj} {es : Array (Int × Value)} {ep : Nat} {t : SetTable}
end
end DS
set_option Elab.async false
set_option linter.all false
set_option maxRecDepth 100000
set_option maxHeartbeats 1600000
namespace DS
open PySem PySem.Spec PyProof.Rows
abbrev lst0 (acc : Array Value) (c : Nat) : Obj := { cls := .type "list", dict := none, data := .seq acc c, slots := #[] }
section
variable {prog : Program} {w : World} {A : Around} {E : Value → Shared → Prop} {s : Shared} {I : Addr} {fp wr : List Addr} {G : Array GenState → Array GenState → Prop} {n : Nat} {P : Nat → Value → Prop} {St : Nat → Shared → Prop}
end
section
variable {prog : Program} {w : World} {K : Type} [DecidableEq K] [Inhabited K] {knd : PySem.KeyKind prog w K} {A : Around} {E : Value → Shared → Prop} {s : Shared} {S : Addr}
def KeysIn (knd : PySem.KeyKind prog w K) (vs : List Value) (ks : List K) : Prop := vs.length = ks.length ∧ ∀ i (h : i < vs.length) (h' : i < ks.length), knd.is ks[i] vs[i] = true ∧ vs[i].scannable = true
end
end DS
set_option Elab.async false
set_option linter.all false
set_option maxRecDepth 100000
set_option maxHeartbeats 1600000
namespace DS
open PySem PySem.Spec PyProof.Rows L2
def dedup {K : Type} [DecidableEq K] (ks : List K) : List K := ks.foldl addK []
section
variable {prog : Program} {w : World} {A : Around} {E : Value → Shared → Prop} {s : Shared} {S : Addr}
end
end DS
set_option Elab.async false
set_option linter.all false
set_option maxRecDepth 100000
set_option maxHeartbeats 1600000
namespace DS
open PySem L2
section
variable {X : Cx} {e : Expr} {ta : TA} {p1 p2 pos pos2 : Pos}
def tSS (K : PySem.W.Frag) (ta : TA) : TE := fun σ H Q => ta σ H fun vs H1 => ∃ (a : Addr) (ns : List Int), vs = [.ref a] ∧ (SqL K H1 a (ns.map V.int) ∨ SqT K H1 a (ns.map V.int)) ∧ ns.length < 4000 ∧ ∀ (ns' : List Int) (p : Addr), ns'.Perm (dedup ns) → ns'.Pairwise (· ≤ ·) → H1 p = none → Q (.ref p) (upd H1 p (.lst (ns'.map V.int)))
theorem boot_len : bootBuiltins ("len" : Str) = some (.builtin "len") := by decide +kernel
def tLS (K : PySem.W.Frag) (ta : TA) : TE := fun σ H Q => ta σ H fun vs H1 => ∃ (a : Addr), vs = [.ref a] ∧
  ((∃ ns : List Int, (SqL K H1 a (ns.map V.int) ∨ SqT K H1 a (ns.map V.int)) ∧ ns.length < 4000 ∧ Q (.int (dedup ns).length) H1) ∨ ∃ ns : List Str, (SqL K H1 a (ns.map V.str) ∨ SqT K H1 a (ns.map V.str)) ∧ ns.length < 4000 ∧ Q (.int (dedup ns).length) H1)
end
end DS
set_option Elab.async false
set_option linter.all false
set_option maxRecDepth 100000
set_option maxHeartbeats 1600000
namespace DS
open PySem PySem.Spec PyProof.Rows
section
variable {prog : Program} {w : World} {A : Around} {E : Value → Shared → Prop} {s : Shared} {S : Addr}
theorem sorted_seq {o : Obj} {T : String} {vs : List Value} {n : Nat} {ns : List Int} {Q : Value → Shared → Prop} (hT : T = "list" ∨ T = "tuple") (ho : s.heap.get? S = some o) (hc : o.cls = .type T) (hd : o.data = .seq vs.toArray n) (hI : IntsAre vs ns) (hz : vs.length ≤ sizeLine)
    (fin : ∀ (out : Array Value) (ns' : List Int) (e : Nat) (h1 h' : Heap), IntsAre out.toList ns' → ns'.Perm ns → ns'.Pairwise (· ≤ ·) → (∀ b o, s.heap.get? b = some o → h1.get? b = some o) → (∀ b o, h1.get? b = some o → h'.get? b = some o) → h'.get? h1.objs.size = some (seqObj "list" out e) → Q (.ref h1.objs.size) { s with heap := h' }) :
    wpAny (model prog w) A (call (.builtin "sorted") [.ref S]) Q E s := by
  refine Calls.call_function_entry kind_sorted plain_sorted entry_sorted (args_sorted1 _) ?_
  unfold Builtin.«sorted»
  refine wpAny_bind (m := checkCount "sorted" 1 1 _) (wpAny_pure ?_)
  refine wpAny_bind (wpAny_collect_seq S hT ho hc hd (fun h' keep => ?_) (by simpa using hz))
  refine wpAny_bind (wpAny_newList ?_ (by simpa using hz))
  have hoL : (h'.push (seqObj "list" vs.toArray 0)).get? h'.objs.size = some (seqObj "list" vs.toArray 0) := Heap.get?_push_size _ rfl
  refine wpAny_bind (wpAny_holding (wpAny_call_entry slot_list_sort ⟨_, hoL, rfl⟩ entry_list_sort (list_sort_treeAny hoL hI hz fun out ns' a1 a2 a3 => ⟨_, rfl, ?_⟩) (args_list_sort _)))
  obtain ⟨e, he⟩ := sortedHeap_at (out := out) hoL
  refine wpAny_pure ⟨_, rfl, fin out ns' e h' _ a1 a2 a3 keep (fun b o e => ?_) he⟩
  have hb := Heap.lt_size e
  rw [sortedHeap_old (Nat.ne_of_lt hb) (by rw [Heap.size_push]; exact Nat.lt_succ_of_lt hb), Heap.get?_push_of_some _ e]
end
end DS
namespace DS
open PySem L2
section
variable {X : Cx}
def rSortA (K : PySem.W.Frag) : List V → Hp → VK → Prop := fun vs H Q => ∃ (a : Addr) (ns : List Int), vs = [V.ref a] ∧ (SqL K H a (ns.map V.int) ∨ SqT K H a (ns.map V.int)) ∧ ∀ (ns' : List Int) (p : Addr), ns'.Perm ns → ns'.Pairwise (· ≤ ·) → H p = none → Q (.ref p) (upd H p (.lst (ns'.map V.int)))
theorem cr_sortA : CallR X (.builtin "sorted") (rSortA X.K) := by
  intro pins s σ H vs us Q I r h
  obtain ⟨a, ns, rfl, hs, q⟩ := h
  rw [Vals.ref1 r]
  have go : ∀ (its : List Value) (T : String) (o : Obj) (n : Nat), (T = "list" ∨ T = "tuple") → s.heap.get? a = some o → o.cls = .type T → o.data = .seq its.toArray n → Vals (ns.map V.int) its → its.length ≤ sizeLine → wpAny (model X.prog X.w) X.A (call (.builtin "sorted") [.ref a]) (EP X pins σ Q) X.xe s := fun its T o n hT ho hc hd rv hz => by
    refine sorted_seq hT ho hc hd rv.ints hz fun out ns' e h1 h' b1 b2 b3 k1 k2 hL => ?_
    have I2 : Inv X pins σ H { s with heap := h1 } := I.kept (t' := s.toks) k1
    have hlen : its.length = ns.length := by rw [← rv.length, List.length_map]
    have I3 := I2.laid (a := h1.objs.size) (o := .lst (ns'.map V.int)) (t' := s.toks) (h' := h') k2 (Nat.le_refl _) ⟨by rw [List.length_map, b2.length_eq, ← hlen]; exact hz, out.toList, e, vals_of_ints b1, hL⟩
    exact ⟨.ref _, _, I3, rfl, q ns' _ b2 b3 (I2.hok.fresh (Nat.le_refl _))⟩
  rcases hs with hs | hs
  · obtain ⟨its, rv, ⟨o, n, ho, hc, _, hd⟩, hz⟩ := I.list hs
    exact go its "list" o n (.inl rfl) ho hc hd rv (by rw [← rv.length]; exact hz)
  · obtain ⟨its, rv, ⟨o, ho, hc, n, hd⟩, hz⟩ := I.tuple hs
    exact go its "tuple" o n (.inr rfl) ho hc hd rv (by rw [← rv.length]; exact hz)
end
end DS
set_option Elab.async false
set_option linter.all false
set_option maxRecDepth 100000
set_option maxHeartbeats 1600000
namespace DS
open PySem PySem.Spec PyProof.Rows
def szB (op : CmpOp) (m n : Nat) : Bool := match op with
  | .Lt => decide (m < n) | .LtE => decide (m ≤ n) | .Gt => decide (m > n) | .GtE => decide (m ≥ n) | .Eq => m == n | .NotEq => m != n | _ => decide (m ≥ n)
def RcOp (A : Around) (s : Shared) (op : CmpOp) (v u : Value) (b : Bool) : Prop := ∀ (prog : Program) (w : World) (E : Value → Shared → Prop) (Q : Value → Shared → Prop), Q (.bool b) s → wpAny (model prog w) A (richCompare op v u) Q E s
inductive CmpL (A : Around) (s : Shared) (op : CmpOp) : List Value → List Value → Bool → Prop
  | fin {vs ws : List Value} : vs = [] ∨ ws = [] → CmpL A s op vs ws (szB op vs.length ws.length)
  | eq {v w : Value} {vs ws : List Value} {b : Bool} : SeqAt.EqAt A s v w true → CmpL A s op vs ws b → CmpL A s op (v :: vs) (w :: ws) b
  | ne {v w : Value} {vs ws : List Value} {b : Bool} : SeqAt.EqAt A s v w false → RcOp A s op v w b → CmpL A s op (v :: vs) (w :: ws) b
section
open PySem.SeqAt
open PySem.AutoSeq1 (wpAny_loadPart')
open PySem.MeetsSeq PySem.MeetsSeq2 PySem.MeetsSeq3
theorem tuple_lt_any (l b : Addr) (items items2 : Array Value) (n n2 : Nat) (dd dd2 : Option Addr) (sl sl2 : Array (Option Value)) (r : Bool) :
    Meets (Builtin.«tuple.__lt__» ⟨[.ref l, .ref b], []⟩) (fun A R s => s.heap.get? l = some { cls := .type "tuple", dict := dd, data := .seq items n, slots := sl } ∧ s.heap.get? b = some { cls := .type "tuple", dict := dd2, data := .seq items2 n2, slots := sl2 } ∧
        CmpL A.in1 s .Lt items.toList items2.toList r ∧ R (.ok (.ret (.bool r))) s) :=
  .of_wp fun prog w A R s h => by
    obtain ⟨hp, g, d, tk, os⟩ := s; obtain ⟨hl, hb, hc, h⟩ := h
    have f2 := AutoSeq1.sub_tuple_tuple
    wp_walk using wpAny_loadPart' hl, wpAny_loadPart' hb, wpAny_forIn_list _ (fun rest b s' => b.1 = none ∧ s' = ⟨hp, g, d, tk, os⟩ ∧ ∃ (vs ws : List Value), rest = vs.zip ws ∧ CmpL A.in1 ⟨hp, g, d, tk, os⟩ .Lt vs ws r ∧ vs.length + items2.size = ws.length + items.size) _
    case turn =>
      rintro ⟨y, x⟩ rest b s' ⟨hb', rfl, vs, ws, hz, hC, hlen⟩
      cases hC with
      | fin he =>
        rcases he with rfl | rfl
        · rw [List.zip_nil_left] at hz; cases hz
        · rw [List.zip_nil_right] at hz; cases hz
      | eq he hC' =>
        rw [List.zip_cons_cons] at hz
        injection hz with hyx hrest
        injection hyx with hy hx
        subst hy hx
        simp only [List.length_cons] at hlen
        refine wpAny_bind (he prog w _ _ ?_)
        wp_walk
        exact ⟨rfl, rfl, _, _, hrest, hC', by omega⟩
      | ne he hr =>
        rw [List.zip_cons_cons] at hz
        injection hz with hyx hrest
        injection hyx with hy hx
        subst hy hx
        refine wpAny_bind (he prog w _ _ ?_)
        have hri := hr prog w
        wp_walk using hri
        exact ⟨_, rfl, by simpa using h⟩
    case fin =>
      rintro ⟨b1, b2⟩ s' ⟨hb', rfl, vs, ws, hz, hC, hlen⟩
      simp only at hb'
      subst hb'
      have hv : szB .Lt items.size items2.size = r := by
        cases hC with
        | fin he =>
          unfold szB
          dsimp only
          exact decide_eq_decide.mpr ⟨fun q => by omega, fun q => by omega⟩
        | eq _ _ => rw [List.zip_cons_cons] at hz; cases hz
        | ne _ _ => rw [List.zip_cons_cons] at hz; cases hz
      rw [← hv] at h
      wp_walk
      exact ⟨_, rfl, by simpa [Builtin.Tuple.tupleCompareSizes, szB] using h⟩
    case h =>
      exact ⟨rfl, rfl, items.toList, items2.toList, rfl, hc, by simp; omega⟩
theorem tuple_le_any (l b : Addr) (items items2 : Array Value) (n n2 : Nat) (dd dd2 : Option Addr) (sl sl2 : Array (Option Value)) (r : Bool) :
    Meets (Builtin.«tuple.__le__» ⟨[.ref l, .ref b], []⟩) (fun A R s => s.heap.get? l = some { cls := .type "tuple", dict := dd, data := .seq items n, slots := sl } ∧ s.heap.get? b = some { cls := .type "tuple", dict := dd2, data := .seq items2 n2, slots := sl2 } ∧
        CmpL A.in1 s .LtE items.toList items2.toList r ∧ R (.ok (.ret (.bool r))) s) :=
  .of_wp fun prog w A R s h => by
    obtain ⟨hp, g, d, tk, os⟩ := s; obtain ⟨hl, hb, hc, h⟩ := h
    have f2 := AutoSeq1.sub_tuple_tuple
    wp_walk using wpAny_loadPart' hl, wpAny_loadPart' hb, wpAny_forIn_list _ (fun rest b s' => b.1 = none ∧ s' = ⟨hp, g, d, tk, os⟩ ∧ ∃ (vs ws : List Value), rest = vs.zip ws ∧ CmpL A.in1 ⟨hp, g, d, tk, os⟩ .LtE vs ws r ∧ vs.length + items2.size = ws.length + items.size) _
    case turn =>
      rintro ⟨y, x⟩ rest b s' ⟨hb', rfl, vs, ws, hz, hC, hlen⟩
      cases hC with
      | fin he =>
        rcases he with rfl | rfl
        · rw [List.zip_nil_left] at hz; cases hz
        · rw [List.zip_nil_right] at hz; cases hz
      | eq he hC' =>
        rw [List.zip_cons_cons] at hz
        injection hz with hyx hrest
        injection hyx with hy hx
        subst hy hx
        simp only [List.length_cons] at hlen
        refine wpAny_bind (he prog w _ _ ?_)
        wp_walk
        exact ⟨rfl, rfl, _, _, hrest, hC', by omega⟩
      | ne he hr =>
        rw [List.zip_cons_cons] at hz
        injection hz with hyx hrest
        injection hyx with hy hx
        subst hy hx
        refine wpAny_bind (he prog w _ _ ?_)
        have hri := hr prog w
        wp_walk using hri
        exact ⟨_, rfl, by simpa using h⟩
    case fin =>
      rintro ⟨b1, b2⟩ s' ⟨hb', rfl, vs, ws, hz, hC, hlen⟩
      simp only at hb'
      subst hb'
      have hv : szB .LtE items.size items2.size = r := by
        cases hC with
        | fin he =>
          unfold szB
          dsimp only
          exact decide_eq_decide.mpr ⟨fun q => by omega, fun q => by omega⟩
        | eq _ _ => rw [List.zip_cons_cons] at hz; cases hz
        | ne _ _ => rw [List.zip_cons_cons] at hz; cases hz
      rw [← hv] at h
      wp_walk
      exact ⟨_, rfl, by simpa [Builtin.Tuple.tupleCompareSizes, szB] using h⟩
    case h =>
      exact ⟨rfl, rfl, items.toList, items2.toList, rfl, hc, by simp; omega⟩
theorem tuple_gt_any (l b : Addr) (items items2 : Array Value) (n n2 : Nat) (dd dd2 : Option Addr) (sl sl2 : Array (Option Value)) (r : Bool) :
    Meets (Builtin.«tuple.__gt__» ⟨[.ref l, .ref b], []⟩) (fun A R s => s.heap.get? l = some { cls := .type "tuple", dict := dd, data := .seq items n, slots := sl } ∧ s.heap.get? b = some { cls := .type "tuple", dict := dd2, data := .seq items2 n2, slots := sl2 } ∧
        CmpL A.in1 s .Gt items.toList items2.toList r ∧ R (.ok (.ret (.bool r))) s) :=
  .of_wp fun prog w A R s h => by
    obtain ⟨hp, g, d, tk, os⟩ := s; obtain ⟨hl, hb, hc, h⟩ := h
    have f2 := AutoSeq1.sub_tuple_tuple
    wp_walk using wpAny_loadPart' hl, wpAny_loadPart' hb, wpAny_forIn_list _ (fun rest b s' => b.1 = none ∧ s' = ⟨hp, g, d, tk, os⟩ ∧ ∃ (vs ws : List Value), rest = vs.zip ws ∧ CmpL A.in1 ⟨hp, g, d, tk, os⟩ .Gt vs ws r ∧ vs.length + items2.size = ws.length + items.size) _
    case turn =>
      rintro ⟨y, x⟩ rest b s' ⟨hb', rfl, vs, ws, hz, hC, hlen⟩
      cases hC with
      | fin he =>
        rcases he with rfl | rfl
        · rw [List.zip_nil_left] at hz; cases hz
        · rw [List.zip_nil_right] at hz; cases hz
      | eq he hC' =>
        rw [List.zip_cons_cons] at hz
        injection hz with hyx hrest
        injection hyx with hy hx
        subst hy hx
        simp only [List.length_cons] at hlen
        refine wpAny_bind (he prog w _ _ ?_)
        wp_walk
        exact ⟨rfl, rfl, _, _, hrest, hC', by omega⟩
      | ne he hr =>
        rw [List.zip_cons_cons] at hz
        injection hz with hyx hrest
        injection hyx with hy hx
        subst hy hx
        refine wpAny_bind (he prog w _ _ ?_)
        have hri := hr prog w
        wp_walk using hri
        exact ⟨_, rfl, by simpa using h⟩
    case fin =>
      rintro ⟨b1, b2⟩ s' ⟨hb', rfl, vs, ws, hz, hC, hlen⟩
      simp only at hb'
      subst hb'
      have hv : szB .Gt items.size items2.size = r := by
        cases hC with
        | fin he =>
          unfold szB
          dsimp only
          exact decide_eq_decide.mpr ⟨fun q => by omega, fun q => by omega⟩
        | eq _ _ => rw [List.zip_cons_cons] at hz; cases hz
        | ne _ _ => rw [List.zip_cons_cons] at hz; cases hz
      rw [← hv] at h
      wp_walk
      exact ⟨_, rfl, by simpa [Builtin.Tuple.tupleCompareSizes, szB] using h⟩
    case h =>
      exact ⟨rfl, rfl, items.toList, items2.toList, rfl, hc, by simp; omega⟩
theorem tuple_ge_any (l b : Addr) (items items2 : Array Value) (n n2 : Nat) (dd dd2 : Option Addr) (sl sl2 : Array (Option Value)) (r : Bool) :
    Meets (Builtin.«tuple.__ge__» ⟨[.ref l, .ref b], []⟩) (fun A R s => s.heap.get? l = some { cls := .type "tuple", dict := dd, data := .seq items n, slots := sl } ∧ s.heap.get? b = some { cls := .type "tuple", dict := dd2, data := .seq items2 n2, slots := sl2 } ∧
        CmpL A.in1 s .GtE items.toList items2.toList r ∧ R (.ok (.ret (.bool r))) s) :=
  .of_wp fun prog w A R s h => by
    obtain ⟨hp, g, d, tk, os⟩ := s; obtain ⟨hl, hb, hc, h⟩ := h
    have f2 := AutoSeq1.sub_tuple_tuple
    wp_walk using wpAny_loadPart' hl, wpAny_loadPart' hb, wpAny_forIn_list _ (fun rest b s' => b.1 = none ∧ s' = ⟨hp, g, d, tk, os⟩ ∧ ∃ (vs ws : List Value), rest = vs.zip ws ∧ CmpL A.in1 ⟨hp, g, d, tk, os⟩ .GtE vs ws r ∧ vs.length + items2.size = ws.length + items.size) _
    case turn =>
      rintro ⟨y, x⟩ rest b s' ⟨hb', rfl, vs, ws, hz, hC, hlen⟩
      cases hC with
      | fin he =>
        rcases he with rfl | rfl
        · rw [List.zip_nil_left] at hz; cases hz
        · rw [List.zip_nil_right] at hz; cases hz
      | eq he hC' =>
        rw [List.zip_cons_cons] at hz
        injection hz with hyx hrest
        injection hyx with hy hx
        subst hy hx
        simp only [List.length_cons] at hlen
        refine wpAny_bind (he prog w _ _ ?_)
        wp_walk
        exact ⟨rfl, rfl, _, _, hrest, hC', by omega⟩
      | ne he hr =>
        rw [List.zip_cons_cons] at hz
        injection hz with hyx hrest
        injection hyx with hy hx
        subst hy hx
        refine wpAny_bind (he prog w _ _ ?_)
        have hri := hr prog w
        wp_walk using hri
        exact ⟨_, rfl, by simpa using h⟩
    case fin =>
      rintro ⟨b1, b2⟩ s' ⟨hb', rfl, vs, ws, hz, hC, hlen⟩
      simp only at hb'
      subst hb'
      have hv : szB .GtE items.size items2.size = r := by
        cases hC with
        | fin he =>
          unfold szB
          dsimp only
          exact decide_eq_decide.mpr ⟨fun q => by omega, fun q => by omega⟩
        | eq _ _ => rw [List.zip_cons_cons] at hz; cases hz
        | ne _ _ => rw [List.zip_cons_cons] at hz; cases hz
      rw [← hv] at h
      wp_walk
      exact ⟨_, rfl, by simpa [Builtin.Tuple.tupleCompareSizes, szB] using h⟩
    case h =>
      exact ⟨rfl, rfl, items.toList, items2.toList, rfl, hc, by simp; omega⟩
end
section
variable {A : Around} {s : Shared}
theorem rc_lt {l b : Addr} {items items2 : Array Value} {r : Bool} (hl : IsTup s.heap l items) (hb : IsTup s.heap b items2) (hu : A.units < cLine) (hc : CmpL A.in1 s .Lt items.toList items2.toList r) : RcOp A s .Lt (.ref l) (.ref b) r := fun prog w E Q h => by
  obtain ⟨⟨cls, dd, data, sl⟩, ho, hc1, n, hd⟩ := id hl
  obtain ⟨⟨cls2, dd2, data2, sl2⟩, ho2, hc2, n2, hd2⟩ := id hb
  simp only at hc1 hd hc2 hd2
  subst hc1 hd hc2 hd2
  exact richCompare_meets_room (op := .Lt) ⟨_, ho, rfl⟩ ⟨_, ho2, rfl⟩ PySem.F.slot_tuple_lt PySem.F.entry_tuple_lt (PySem.F.args_tuple_lt_2 _ _) (tuple_lt_any l b items items2 n n2 dd dd2 sl sl2 r) ⟨ho, ho2, hc, show Value.bool r ≠ Value.notImplemented ∧ Q (.bool r) s from ⟨(fun x => nomatch x), h⟩⟩ hu
theorem rc_le {l b : Addr} {items items2 : Array Value} {r : Bool} (hl : IsTup s.heap l items) (hb : IsTup s.heap b items2) (hu : A.units < cLine) (hc : CmpL A.in1 s .LtE items.toList items2.toList r) : RcOp A s .LtE (.ref l) (.ref b) r := fun prog w E Q h => by
  obtain ⟨⟨cls, dd, data, sl⟩, ho, hc1, n, hd⟩ := id hl
  obtain ⟨⟨cls2, dd2, data2, sl2⟩, ho2, hc2, n2, hd2⟩ := id hb
  simp only at hc1 hd hc2 hd2
  subst hc1 hd hc2 hd2
  exact richCompare_meets_room (op := .LtE) ⟨_, ho, rfl⟩ ⟨_, ho2, rfl⟩ PySem.F.slot_tuple_le PySem.F.entry_tuple_le (PySem.F.args_tuple_le_2 _ _) (tuple_le_any l b items items2 n n2 dd dd2 sl sl2 r) ⟨ho, ho2, hc, show Value.bool r ≠ Value.notImplemented ∧ Q (.bool r) s from ⟨(fun x => nomatch x), h⟩⟩ hu
theorem rc_gt {l b : Addr} {items items2 : Array Value} {r : Bool} (hl : IsTup s.heap l items) (hb : IsTup s.heap b items2) (hu : A.units < cLine) (hc : CmpL A.in1 s .Gt items.toList items2.toList r) : RcOp A s .Gt (.ref l) (.ref b) r := fun prog w E Q h => by
  obtain ⟨⟨cls, dd, data, sl⟩, ho, hc1, n, hd⟩ := id hl
  obtain ⟨⟨cls2, dd2, data2, sl2⟩, ho2, hc2, n2, hd2⟩ := id hb
  simp only at hc1 hd hc2 hd2
  subst hc1 hd hc2 hd2
  exact richCompare_meets_room (op := .Gt) ⟨_, ho, rfl⟩ ⟨_, ho2, rfl⟩ PySem.F.slot_tuple_gt PySem.F.entry_tuple_gt (PySem.F.args_tuple_gt_2 _ _) (tuple_gt_any l b items items2 n n2 dd dd2 sl sl2 r) ⟨ho, ho2, hc, show Value.bool r ≠ Value.notImplemented ∧ Q (.bool r) s from ⟨(fun x => nomatch x), h⟩⟩ hu
theorem rc_ge {l b : Addr} {items items2 : Array Value} {r : Bool} (hl : IsTup s.heap l items) (hb : IsTup s.heap b items2) (hu : A.units < cLine) (hc : CmpL A.in1 s .GtE items.toList items2.toList r) : RcOp A s .GtE (.ref l) (.ref b) r := fun prog w E Q h => by
  obtain ⟨⟨cls, dd, data, sl⟩, ho, hc1, n, hd⟩ := id hl
  obtain ⟨⟨cls2, dd2, data2, sl2⟩, ho2, hc2, n2, hd2⟩ := id hb
  simp only at hc1 hd hc2 hd2
  subst hc1 hd hc2 hd2
  exact richCompare_meets_room (op := .GtE) ⟨_, ho, rfl⟩ ⟨_, ho2, rfl⟩ PySem.F.slot_tuple_ge PySem.F.entry_tuple_ge (PySem.F.args_tuple_ge_2 _ _) (tuple_ge_any l b items items2 n n2 dd dd2 sl sl2 r) ⟨ho, ho2, hc, show Value.bool r ≠ Value.notImplemented ∧ Q (.bool r) s from ⟨(fun x => nomatch x), h⟩⟩ hu
end
end DS
set_option Elab.async false
set_option linter.all false
set_option maxRecDepth 100000
set_option maxHeartbeats 1600000
namespace DS
open PySem PySem.Spec PyProof.Rows
def szI (op : CmpOp) (a b : Int) : Option Bool := match op with
  | .Lt => some (decide (a < b)) | .LtE => some (decide (a ≤ b)) | .Gt => some (decide (b < a)) | .GtE => some (decide (b ≤ a)) | _ => none
def szS (op : CmpOp) (a b : Str) : Option Bool := match op with
  | .Lt => some (decide (a.cps.toList < b.cps.toList)) | _ => none
def cmpAll (op : CmpOp) (c : PyData → PyData → Option Bool) : List PyData → List PyData → Option Bool
  | [], ys => some (szB op 0 ys.length)
  | x :: xs, [] => some (szB op (x :: xs).length 0)
  | x :: xs, y :: ys => if PyData.eqv x y = true then cmpAll op c xs ys else c x y
def cmpD (op : CmpOp) : Nat → PyData → PyData → Option Bool
  | 0, .int a, .int b => szI op a b
  | 0, .str a, .str b => szS op a b
  | _ + 1, .int a, .int b => szI op a b
  | _ + 1, .str a, .str b => szS op a b
  | k + 1, .tuple xs, .tuple ys => if SeqAt.shaped (.tuple xs) = true ∧ SeqAt.shaped (.tuple ys) = true then cmpAll op (cmpD op k) xs ys else none
  | _, _, _ => none
theorem canAll {xs : List PyData} (h : SeqAt.shaped (.tuple xs) = true) : PyData.canLayAll0 xs = true ∧ PyData.depthAll xs ≤ 64 := by
  have h1 := SeqAt.canLay_of_shaped h
  have h2 := SeqAt.depth_of_shaped h
  refine ⟨by simpa [PyData.canLay0] using h1, ?_⟩
  have : (PyData.tuple xs).depth = 1 + PyData.depthAll xs ∨ (PyData.tuple xs).depth = PyData.depthAll xs + 1 := by first | exact .inl rfl | exact .inr rfl
  omega
section
variable {A : Around} {s : Shared}
theorem rc_int {op : CmpOp} {a b : Int} {t u : Tok} {r : Bool} (h : szI op a b = some r) : RcOp A s op (.int a t) (.int b u) r := fun prog w E Q q => by
  unfold szI at h
  cases op <;> first | (cases h; done) | skip
  · cases h; exact (lt_int q : wpAny _ _ (compareOp .Lt _ _) _ _ _)
  · cases h; exact (le_int q : wpAny _ _ (compareOp .LtE _ _) _ _ _)
  · cases h; exact (gt_int q : wpAny _ _ (compareOp .Gt _ _) _ _ _)
  · cases h; exact (ge_int q : wpAny _ _ (compareOp .GtE _ _) _ _ _)
theorem rc_str {op : CmpOp} {a b : Str} {t u : Tok} {r : Bool} (h : szS op a b = some r) : RcOp A s op (.str a t) (.str b u) r := fun prog w E Q q => by
  unfold szS at h
  cases op <;> first | (cases h; done) | skip
  cases h; exact (lt_str q : wpAny _ _ (compareOp .Lt _ _) _ _ _)
theorem cmpL_reads {op : CmpOp} {c : PyData → PyData → Option Bool} : ∀ {xs ys : List PyData} {vs ws : List Value} {as bs : List Addr} {r : Bool}, ReadsAll s.heap vs xs as → ReadsAll s.heap ws ys bs → PyData.canLayAll0 xs = true → PyData.canLayAll0 ys = true → PyData.depthAll xs ≤ 64 → A.units + 64 < cLine →
    (∀ x y v w as bs r, x ∈ xs → y ∈ ys → Reads s.heap v x as → Reads s.heap w y bs → c x y = some r → RcOp A s op v w r) → cmpAll op c xs ys = some r → CmpL A s op vs ws r
  | [], ys, vs, ws, _, _, r, r1, r2, _, _, _, _, _, h => by
    cases r1
    cases h
    have : ws.length = ys.length := by
      have : ∀ {ws ys bs}, ReadsAll s.heap ws ys bs → ws.length = ys.length := by
        intro ws ys bs h
        induction ws generalizing ys bs with
        | nil => cases h; rfl
        | cons w ws ih => cases h with | cons a b => simp [ih b]
      exact this r2
    rw [← this]
    exact .fin (.inl rfl)
  | x :: xs, [], vs, ws, _, _, r, r1, r2, _, _, _, _, _, h => by
    cases r2
    cases h
    have : vs.length = (x :: xs).length := by
      have : ∀ {ws ys bs}, ReadsAll s.heap ws ys bs → ws.length = ys.length := by
        intro ws ys bs h
        induction ws generalizing ys bs with
        | nil => cases h; rfl
        | cons w ws ih => cases h with | cons a b => simp [ih b]
      exact this r1
    rw [← this]
    exact .fin (.inr rfl)
  | x :: xs, y :: ys, vs, ws, _, _, r, r1, r2, c1, c2, hd, hu, hc, h => by
    cases r1 with
    | cons a1 a2 =>
      cases r2 with
      | cons b1 b2 =>
        have c1 : x.canLay0 = true ∧ PyData.canLayAll0 xs = true := by simpa [PyData.canLayAll0] using c1
        have c2 : y.canLay0 = true ∧ PyData.canLayAll0 ys = true := by simpa [PyData.canLayAll0] using c2
        have hd1 : x.depth ≤ 64 ∧ PyData.depthAll xs ≤ 64 := by
          have : PyData.depthAll (x :: xs) = max x.depth (PyData.depthAll xs) := rfl
          omega
        have he := SeqAt.eqAt_reads x y A s _ _ _ _ a1 b1 c1.1 c2.1 (by have := Nat.min_le_left x.depth y.depth; omega)
        unfold cmpAll at h
        split at h
        · rename_i e
          rw [e] at he
          exact .eq he (cmpL_reads a2 b2 c1.2 c2.2 hd1.2 hu (fun x y v w as bs r hx hy => hc x y v w as bs r (List.mem_cons_of_mem _ hx) (List.mem_cons_of_mem _ hy)) h)
        · rename_i e
          rw [show PyData.eqv x y = false by simpa using e] at he
          exact .ne he (hc _ _ _ _ _ _ _ List.mem_cons_self List.mem_cons_self a1 b1 h)
def Ord4 (op : CmpOp) : Prop := op = .Lt ∨ op = .LtE ∨ op = .Gt ∨ op = .GtE
theorem rc_tup {op : CmpOp} {A : Around} {l b : Addr} {items items2 : Array Value} {r : Bool} (ho : Ord4 op) (hl : IsTup s.heap l items) (hb : IsTup s.heap b items2) (hu : A.units < cLine) (hc : CmpL A.in1 s op items.toList items2.toList r) : RcOp A s op (.ref l) (.ref b) r := by
  rcases ho with rfl | rfl | rfl | rfl
  · exact rc_lt hl hb hu hc
  · exact rc_le hl hb hu hc
  · exact rc_gt hl hb hu hc
  · exact rc_ge hl hb hu hc
theorem rc_reads {op : CmpOp} (ho : Ord4 op) : ∀ (k : Nat) {A : Around} {x y : PyData} {v w : Value} {as bs : List Addr} {r : Bool}, A.units + 64 + k < cLine → Reads s.heap v x as → Reads s.heap w y bs → cmpD op k x y = some r → RcOp A s op v w r := by
  intro k
  induction k with
  | zero =>
    intro A x y v w as bs r hu r1 r2 h
    unfold cmpD at h
    split at h <;> first | (cases h; done) | skip
    all_goals first | (rename_i e; cases e; done) | skip
    · cases r1; cases r2; exact rc_int h
    · cases r1; cases r2; exact rc_str h
  | succ k ih =>
    intro A x y v w as bs r hu r1 r2 h
    unfold cmpD at h
    split at h
    all_goals first | (cases h; done) | skip
    all_goals first | (rename_i e; cases e; done) | skip
    · cases r1; cases r2; exact rc_int h
    · cases r1; cases r2; exact rc_str h
    · rename_i xs ys e
      cases e
      split at h
      · rename_i hs
        cases r1 with
        | tuple o1 t1 d1 q1 =>
          cases r2 with
          | tuple o2 t2 d2 q2 =>
            obtain ⟨k1, k2⟩ := canAll hs.1
            obtain ⟨k3, _⟩ := canAll hs.2
            have hu1 : A.in1.units = A.units + 1 := rfl
            have cl := cmpL_reads (op := op) (A := A.in1) q1 q2 k1 k3 k2 (by omega) (fun x y v w as bs r _ _ b1 b2 hb => ih (by omega) b1 b2 hb) h
            exact rc_tup ho ⟨_, o1, t1, _, d1⟩ ⟨_, o2, t2, _, d2⟩ (by omega) cl
      · cases h
end
end DS
set_option Elab.async false
set_option linter.all false
set_option maxRecDepth 100000
set_option maxHeartbeats 1600000
namespace DS
open PySem PySem.Spec PyProof.Rows
def bestGo (c : PyData → PyData → Option Bool) : Nat → PyData → Nat → List PyData → Option (Nat × PyData)
  | bi, b, _, [] => some (bi, b)
  | bi, b, i, d :: ds => match c d b with
    | some true => bestGo c i d (i + 1) ds
    | some false => bestGo c bi b (i + 1) ds
    | none => none
theorem readsAll_get {h : Heap} : ∀ {vs : List Value} {ds : List PyData} {as : List Addr} {i : Nat} {v : Value} {d : PyData}, ReadsAll h vs ds as → vs[i]? = some v → ds[i]? = some d → ∃ bs, Reads h v d bs
  | _, _, _, _, _, _, .nil, e, _ => by simp at e
  | _, _, _, 0, _, _, .cons a _, e1, e2 => by simp at e1 e2; subst e1 e2; exact ⟨_, a⟩
  | _, _, _, i + 1, _, _, .cons _ b, e1, e2 => readsAll_get (i := i) b (by simpa using e1) (by simpa using e2)
section
variable {prog : Program} {w : World} {A : Around} {E : Value → Shared → Prop} {R : Result → Shared → Prop} {I S l : Addr} {its : List Value} {ds : List PyData} {as : List Addr} {h0 : Heap} {kw : List (Str × Value)}
end
section
variable {prog : Program} {w : World} {A : Around} {E : Value → Shared → Prop} {R : Result → Shared → Prop} {I S l : Addr} {its : List Value} {ds : List PyData} {as : List Addr} {h0 : Heap} {kw : List (Str × Value)}
end
end DS
set_option Elab.async false
set_option linter.all false
set_option maxRecDepth 100000
set_option maxHeartbeats 800000
namespace DS
open PySem L2
section
variable {X : Cx}
def rCmp (K : PySem.W.Frag) (op : CmpOp) : R2 := fun x y H Q => ∃ d e b, Dp K H x d ∧ Dp K H y e ∧ cmpD op 3 d e = some b ∧ Q (.bl b) H
def rBest (K : PySem.W.Frag) (op : CmpOp) : List V → Hp → VK → Prop := fun vs H Q => ∃ (a : Addr) (xs : List V) (d : PyData) (dr : List PyData) (ri : Nat) (rd : PyData), vs = [V.ref a] ∧ SqL K H a xs ∧ DpAll K H xs (d :: dr) ∧ bestGo (cmpD op 3) 0 d 1 dr = some (ri, rd) ∧ ∀ v, xs[ri]? = some v → Q v H
theorem vals_get : ∀ {xs : List V} {us : List Value} {i : Nat} {u : Value}, Vals xs us → us[i]? = some u → ∃ x, xs[i]? = some x ∧ RelV x u
  | _, _, _, _, .nil, e => by simp at e
  | _, _, 0, _, .cons a _, e => by simp at e; subst e; exact ⟨_, rfl, a⟩
  | _, _, i + 1, _, .cons _ b, e => by
    obtain ⟨x, h1, h2⟩ := vals_get (i := i) b (by simpa using e)
    exact ⟨x, by simpa using h1, h2⟩
def tDf (K : PySem.W.Frag) (op : CmpOp) (ta : TA) (td : TE) : TE := fun σ H Q => ta σ H fun vs H1 => td σ H1 fun x H2 => (∃ a, vs = [V.ref a] ∧ SqL K H2 a [] ∧ Q x H2) ∨ rBest K op vs H2 Q
end
end DS
set_option Elab.async false
set_option linter.all false
set_option maxRecDepth 100000
set_option maxHeartbeats 400000
namespace DL
open PySem L2
def setInts (ds : List PyData) : Option (List Int) := match ds with
  | [a] => match itemsD a with
    | some xs => match asInts xs with
      | some ns => if ns.length < 4000 then some ns else none
      | none => none
    | none => none
  | _ => none
def asStrs : List PyData → Option (List Str)
  | [] => some []
  | .str i :: r => (asStrs r).map (i :: ·)
  | _ => none
theorem DvAll.strs {K : PySem.W.Frag} {H : Hp} : ∀ {vs : List V} {ds : List PyData} {ns : List Str}, DvAll K H vs ds → asStrs ds = some ns → vs = ns.map V.str
  | _, _, _, .nil, e => by cases e; rfl
  | _, d :: ds, ns, .cons a b, e => by
    cases d <;> first | (cases e; done) | skip
    rename_i i
    cases h : asStrs ds with
    | none => simp [asStrs, h] at e
    | some ms =>
      simp [asStrs, h] at e
      subst e
      cases a
      rw [List.map_cons, ← DvAll.strs b h]
def setStrs (ds : List PyData) : Option (List Str) := match ds with
  | [a] => match itemsD a with
    | some xs => match asStrs xs with
      | some ns => if ns.length < 4000 then some ns else none
      | none => none
    | none => none
  | _ => none
def sset (ns : List Int) : List Int := isort (DS.dedup ns)
def fSS (fs : Env → Pp (List PyData)) : Env → Pp (List PyData) := fun ρ => bnd (fs ρ) fun ds => bnd (ofO (setInts ds)) fun ns => ret ((sset ns).map PyData.int)
def eLS (fs : Env → Pp (List PyData)) : Env → Pp PyData := fun ρ => bnd (fs ρ) fun ds => bnd (ofO (match setInts ds with | some ns => some (DS.dedup ns).length | none => (setStrs ds).map fun ns => (DS.dedup ns).length)) fun k => ret (.int (k : Int))
section
variable {W : Wd} {ta : TA} {fs : Env → Pp (List PyData)}
end
section
variable {κ : Kx} {e : Expr} {fs : Env → Pp (List PyData)} {p p1 p2 pos : Pos}
end
end DL
set_option Elab.async false
set_option linter.all false
set_option maxRecDepth 100000
set_option maxHeartbeats 400000
namespace DL
open PySem L2
def dC (op : CmpOp) (a b : PyData) : Option PyData := (DS.cmpD op 3 a b).map PyData.bool
def dBest (op : CmpOp) : PyData → Option PyData
  | .list (d :: dr) => (DS.bestGo (DS.cmpD op 3) 0 d 1 dr).map (·.2)
  | _ => none
section
variable {W : Wd}
def eDf (op : CmpOp) (fs : Env → Pp (List PyData)) (fd : Env → Pp PyData) : Env → Pp PyData := fun ρ => bnd (fs ρ) fun ds => bnd (fd ρ) fun x => match ds with
  | [.list []] => ret x
  | ds => ofO (d1 (dBest op) ds)
def sortIn (ds : List PyData) : Option (List Int) := match ds with
  | [a] => match itemsD a with
    | some xs => asInts xs
    | none => none
  | _ => none
def fSort (fs : Env → Pp (List PyData)) : Env → Pp (List PyData) := fun ρ => bnd (fs ρ) fun ds => bnd (ofO (sortIn ds)) fun ns => ret ((isort ns).map PyData.int)
theorem rf_sort {ta : TA} {fs : Env → Pp (List PyData)} (ha : RA W ta fs) : RF W (tCB (DS.rSortA W.K) ta) (fSort fs) := fun σ H Hs Hr ρ Q Q0 g er h k =>
  ha σ H Hs Hr ρ _ _ g er h fun ds vs H1 Hs1 h1 g1 s1 c1 => by
    obtain ⟨ns, e, q⟩ := ofO_some h1
    unfold sortIn at e
    split at e
    · split at e
      · rename_i a xs hi
        obtain ⟨x, rfl, c2⟩ := c1.one
        obtain ⟨p, ys, rfl, hq, z, qa⟩ := seqOf g1.vis hi (c2.dv (items_noPot hi))
        cases qa.ints e
        refine ⟨p, ns, rfl, hq, fun ns' l hp hs hl => ?_⟩
        rw [isort_eq hp hs]
        refine k _ l _ _ Hs1 q (g1.newr hl) (g1.allocr hl) s1 ?_ (ints_dv _)
        rw [List.length_map, (isort_perm _).length_eq]
        simpa using z
      · cases e
    · cases e
end
section
variable {κ : Kx} {a b e d : Expr} {fa fb fd : Env → Pp PyData} {fs : Env → Pp (List PyData)} {pos p p1 p2 kp : Pos}
theorem xf_sort (hm : κ.mg "sorted" = none) (ha : XA κ [e] fs) (hg : κ.nm.lookup ("sorted" : Str) = some .globalImplicit := by rfl) (he : ∀ env : PySem.Env, starEach [e] env = (false, eval e env) :: starEach [] env := by intro _; rfl) : XF κ (.Call (.Name "sorted" p) [e] [] pos) (fSort fs) :=
  let ⟨_, h1, r1⟩ := ha; ⟨_, fun X h => by have hq := pe_callB (p := p) (pos := pos) (DS.cr_sortA (X := X)) (gl_of h hg) (by rw [h.mg]; exact hm) (by decide +kernel) (h1 X h) (by decide) (by decide) (he _) rfl; rw [h.kk] at hq; exact hq, fun d Pt hF => rf_sort (r1 d Pt hF)⟩
end
end DL
set_option Elab.async false
set_option linter.all false
set_option maxRecDepth 100000
set_option maxHeartbeats 400000
namespace L2
open PySem PySem.Spec PyProof.Rows
section
variable {prog : Program} {w : World} {A : Around} {E : Value → Shared → Prop}
end
section
variable {X : Cx} {pos : Pos}
def gLst (K : PySem.W.Frag) (n : Nat) (t : TGs) : TG := fun v σ H Q => ∃ a xs, v = .ref a ∧ (SqL K H a xs ∨ SqT K H a xs) ∧ xs.length = n ∧ t xs σ H Q
end
end L2
set_option Elab.async false
set_option linter.all false
set_option maxRecDepth 100000
set_option maxHeartbeats 400000
namespace DL
open PySem L2
def gA (n : Nat) (fs : List PyData → Env → Pp Env) : PyData → Env → Pp Env := fun d ρ => match itemsD d with | some ds => if ds.length = n then fs ds ρ else fail | none => fail
section
variable {κ : Kx} {es : List Expr} {pos : Pos}
end
section
variable {P : Program} {w : World} {K : PySem.W.Frag} {mg : Str → Option Value} {base : Heap}
def spPo (K : PySem.W.Frag) (Dr : Hp → Addr → Addr → Prop) (vr : List V) : Sp := fun vs H Q _ => ∃ (a : Addr) (ns : List Int), vs = .ref a :: vr ∧ SqL K H a (ns.map V.int) ∧ ns.length ≤ 63 ∧ ∀ (d g : Addr) (H' : Hp), Dr H' d g → Q (.ref d) H'
theorem law_okG {Dr : Hp → Addr → Addr → Prop} (loc : DrLocal Dr) {st : Stmt} {f : Addr} {fd : FuncData} {N : List Str} {nm : List (Str × NameKind)} {k n0 : Nat} {fb : Sm} {v pf : Str} {vr : List V} {ers : List Expr} {te : TA} {ps0 : List Str} {p1 p2 p3 p5 p6 : Pos} {rest : List Stmt}
    (F : Fun K "law" "law" st f fd) (S : FnScope N ["script"] (defScope st)) (hnm : (defScope st).names = nm) (hbody : defBody st = .Assign [.Name v p1] (.Call (.Name pf p2) (.Name "script" p3 :: ers) [] p5) p6 :: rest)
    (hpa : ∀ X, Cn (mkK P w K mg base k N nm (famD Dr)) X → PA X ers te) (hte : ∀ σ H Q, Q vr H → te σ H Q) (hst1 : ∀ env : PySem.Env, starEach (.Name "script" p3 :: ers) env = (false, eval (.Name "script" p3) env) :: starEach ers env) (hst2 : ∀ env : PySem.Env, (backTo p5 (starEach ers env)).any (·.1) = false) (hsw : ∀ env : PySem.Env, swapsWith (.Call (.Name pf p2) (.Name "script" p3 :: ers) [] p5) (some (.Name v p1)) p6.line env = pure false)
    (cP : Callee P w K mg base n0 pf ps0 (spPo K Dr vr)) (hk : n0 ≤ k) (hg : nm.lookup pf = some .globalImplicit) (hsc : nm.lookup ("script" : Str) = some .local) (hN0 : N[0]? = some ("script" : Str)) (hN : N[1]? = some v) (hv : nm.lookup v = some .local ∨ nm.lookup v = some .cell) (hdb : (pf == ("__debug__" : Str)) = false)
    (hb : XSs (mkK P w K mg base k N nm (famD Dr)) rest fb) (hlaw : fb eLaw (ρLaw (N.length - 2))) : FnOk P w K mg base CX0 (k + 1) f fd ["script"] (spLaw K) := by
  obtain ⟨t, h1, h2⟩ := hb
  obtain ⟨f0, fd0, F0, b0, kp0, hm0⟩ := cP.ex
  refine F.ok S (fun vs H Q E h => ?_) (fun cdv A outer s H vs Q E hr h => ?_)
  · obtain ⟨a, ns, rfl, _⟩ := h
    rfl
  obtain ⟨a, ns, rfl, hS, h63, q⟩ := h
  have cn := cn_start (P := P) (w := w) (K := K) (mg := mg) (base := base) (x := "law") (qual := "law") (st := st) (f := f) (cdv := cdv) (A := A) (outer := outer) (s := s) (H := H) (E := E) (fam := famD Dr) S hnm hr
  rw [hbody]
  refine ⟨_, pss_cons (ps_set_of (κ := mkK P w K mg base k N nm (famD Dr)) (i := 1) (t := tCall (spPo K Dr vr) [] E0 (tCons (tVar 0) te)) (fun X h => ?_) hN hv (.inl rfl) hsw _ cn) (h1 _ cn), ?_⟩
  · exact x_call0 (κ := mkK P w K mg base k N nm (famD Dr)) hk cP hg (fun X h => pa_cons (pe_var (by rw [h.nn]; exact hN0) (vis_of h (.inl hsc))) (hpa X h) (hst1 _)) hdb hst1 hst2 X h
  · have hl : 2 ≤ N.length := by
      have := (List.getElem?_eq_some_iff.mp hN).1
      omega
    have hst : L2.start N [V.ref a] = some (.ref a) :: List.replicate (N.length - 1) none := rfl
    show tAsg _ (gName 1) _ (L2.start N [V.ref a]) H
    rw [hst]
    refine ⟨_, rfl, hte _ _ _ ?_⟩
    refine ⟨a, ns, by rw [List.append_nil], hS, h63, fun d g H' D => ?_⟩
    obtain ⟨Hr, g0⟩ := pot_start (K := K) loc D
    obtain ⟨m, hm⟩ : ∃ m, N.length - 1 = m + 1 := ⟨N.length - 2, by omega⟩
    have hm2 : N.length - 2 = m := by omega
    rw [hm, List.replicate_succ]
    show t _ (some (V.ref a) :: some (V.ref d) :: List.replicate m none) H'
    refine h2 d _ ⟨g, rfl⟩ _ _ H' e0 Hr (ρLaw (N.length - 2)) eLaw ⟨e0, ⟨fun a => .inl rfl, ?_, ⟨by simp [ρLaw, hm2], fun i x e => ?_⟩, ⟨fun a o e => (nomatch e), fun i es e => ?_, fun i j es fs p e => ?_⟩⟩⟩ hlaw ⟨fun σ ρ H' Hs' e => False.elim e, fun x u H2 Hs' e g' s' c' => ?_, fun σ ρ H' Hs' e => False.elim e, fun σ ρ H' Hs' e => False.elim e, fun ds p vs H' Hs' e => False.elim e⟩
    · have : plus e0 Hr = Hr := by funext a; rfl
      rw [this]
      exact g0
    · have e := datAt_some e
      unfold ρLaw at e
      match i with
      | 0 => cases e
      | 1 =>
        cases e
        exact ⟨.ref d, rfl, rfl⟩
      | i + 2 =>
        simp only [List.getElem?_cons_succ, List.getElem?_replicate] at e
        split at e <;> cases e
    · unfold ρLaw at e
      match i with
      | 0 => cases e
      | 1 => cases e
      | i + 2 =>
        simp only [List.getElem?_cons_succ, List.getElem?_replicate] at e
        split at e <;> cases e
    · unfold ρLaw at e
      match i with
      | 0 => cases e
      | 1 => cases e
      | i + 2 =>
        simp only [List.getElem?_cons_succ, List.getElem?_replicate] at e
        split at e <;> cases e
    · have e : x = .bool true := e
      subst e
      have c2 : Dv K Hs' u (.bool true) := c'
      cases c2
      exact q H2
def constL (K : PySem.W.Frag) (a : Addr) (xs : List V) : Prop := ∃ (o : Obj) (its : Array Value) (n : Nat), K.lookup a = some o ∧ o.cls = .type "list" ∧ o.dict = none ∧ o.data = .seq its n ∧ its.size ≤ sizeLine ∧ Vals xs its.toList
structure DrP (K : PySem.W.Frag) (H : Hp) (d g : Addr) : Prop where
  ex : ∃ (c : Int) (q : Addr) (fs : List Int), H d = some (.lst [.ref q, .int c]) ∧ fs ≠ [] ∧ ((q = g ∧ Rd H q (.lst (fs.map V.int))) ∨ (g = d ∧ constL K q (fs.map V.int)))
theorem DrP.sq {K : PySem.W.Frag} {H : Hp} {d g : Addr} (D : DrP K H d g) : ∃ (c : Int) (q : Addr) (fs : List Int), H d = some (.lst [.ref q, .int c]) ∧ fs ≠ [] ∧ SqL K H q (fs.map V.int) ∧ ∀ (c' : Int), DrP K (upd H d (.lst [.ref q, .int c'])) d g ∧ SqL K (upd H d (.lst [.ref q, .int c'])) q (fs.map V.int) := by
  obtain ⟨c, q, fs, h1, h2, h3⟩ := D.ex
  have key : ∀ c' : Int, (q = g ∧ Rd (upd H d (.lst [.ref q, .int c'])) q (.lst (fs.map V.int))) ∨ (g = d ∧ constL K q (fs.map V.int)) := fun c' => by
    rcases h3 with ⟨rfl, h3⟩ | h3
    · have hne : q ≠ d := fun e => by
        subst e
        rcases h3 with h3 | ⟨o, h3⟩
        · rw [h1] at h3
          cases fs with
          | nil => cases h3
          | cons f r => cases h3
        · rw [h1] at h3; cases h3
      refine .inl ⟨rfl, ?_⟩
      rcases h3 with h3 | ⟨o, h3⟩
      · exact .inl (by rw [upd_ne hne]; exact h3)
      · exact .inr ⟨o, by rw [upd_ne hne]; exact h3⟩
    · exact .inr h3
  exact ⟨c, q, fs, h1, h2, h3.elim (fun z => .inl z.2) fun z => .inr z.2, fun c' => ⟨⟨c', q, fs, upd_same, h2, key c'⟩, (key c').elim (fun z => .inl z.2) fun z => .inr z.2⟩⟩
end
end DL
set_option Elab.async false
set_option linter.all false
set_option maxRecDepth 100000
set_option maxHeartbeats 400000
namespace DL
open PySem L2
def kv3 (q : Addr) (t m : Int) : List (Key × V) := [(.inr "draws", .ref q), (.inr "at", .int t), (.inr "more", .int m)]
theorem jDA : ¬ ((Sum.inr ("draws" : Str) : Key) = Sum.inr ("at" : Str)) := by decide +kernel
theorem jDM : ¬ ((Sum.inr ("draws" : Str) : Key) = Sum.inr ("more" : Str)) := by decide +kernel
theorem jAM : ¬ ((Sum.inr ("at" : Str) : Key) = Sum.inr ("more" : Str)) := by decide +kernel
theorem jMA : ¬ ((Sum.inr ("more" : Str) : Key) = Sum.inr ("at" : Str)) := by decide +kernel
section
variable (q : Addr) (t m : Int)
theorem kj_draws : valV (kv3 q t m) (.inr "draws" : Key) = some (.ref q) := by unfold kv3; rw [valV_pos rfl]
theorem kj_at : valV (kv3 q t m) (.inr "at" : Key) = some (.int t) := by unfold kv3; rw [valV_neg jDA, valV_pos rfl]
theorem kj_more : valV (kv3 q t m) (.inr "more" : Key) = some (.int m) := by unfold kv3; rw [valV_neg jDM, valV_neg jAM, valV_pos rfl]
theorem pj_at (x : Int) : putK (kv3 q t m) (.inr "at" : Key) (.int x) = kv3 q x m := by
  unfold putK
  rw [if_pos (by rw [valV_any, kj_at]; rfl)]
  unfold kv3
  simp only [List.map_cons, List.map_nil, if_neg jDA, if_neg jMA, if_true]
theorem pj_more (x : Int) : putK (kv3 q t m) (.inr "more" : Key) (.int x) = kv3 q t x := by
  unfold putK
  rw [if_pos (by rw [valV_any, kj_more]; rfl)]
  unfold kv3
  simp only [List.map_cons, List.map_nil, if_neg jDM, if_neg jAM, if_true]
theorem mk3 : mergeK [] (kv3 q t m) = kv3 q t m := by
  have p1 : putK ([] : List (Key × V)) (.inr "draws" : Key) (.ref q) = [(.inr "draws", .ref q)] := by rw [putK_new _ valV_nil]; rfl
  have p2 : putK ([(.inr "draws", .ref q)] : List (Key × V)) (.inr "at" : Key) (.int t) = [(.inr "draws", .ref q), (.inr "at", .int t)] := by rw [putK_new _ (by rw [valV_neg jDA, valV_nil])]; rfl
  have p3 : putK ([(.inr "draws", .ref q), (.inr "at", .int t)] : List (Key × V)) (.inr "more" : Key) (.int m) = [(.inr "draws", .ref q), (.inr "at", .int t), (.inr "more", .int m)] := by rw [putK_new _ (by rw [valV_neg jDM, valV_neg jAM, valV_nil])]; rfl
  unfold mergeK kv3
  simp only [List.foldl_cons, List.foldl_nil]
  rw [p1, p2, p3]
end
section
variable {H : Hp} {d q : Addr} {t m : Int} (h : H d = some (.dK (kv3 q t m)))
include h
theorem jgD : DGet H d (.str "draws") (some (.ref q)) := Eq.mp (congrArg (DGet H d (.str "draws")) (kj_draws q t m)) (DGet.k (k := Sum.inr "draws") h)
theorem jgA : DGet H d (.str "at") (some (.int t)) := Eq.mp (congrArg (DGet H d (.str "at")) (kj_at q t m)) (DGet.k (k := Sum.inr "at") h)
theorem jgM : DGet H d (.str "more") (some (.int m)) := Eq.mp (congrArg (DGet H d (.str "more")) (kj_more q t m)) (DGet.k (k := Sum.inr "more") h)
end
structure DrJ (K : PySem.W.Frag) (H : Hp) (d g : Addr) : Prop where
  ex : ∃ (t m : Int) (q : Addr) (fs : List Int), H d = some (.dK (kv3 q t m)) ∧ 0 ≤ t ∧ t ≤ fs.length ∧ 0 ≤ m ∧ m < 2147483629 ∧ ((q = g ∧ Rd H q (.lst (fs.map V.int))) ∨ (g = d ∧ constL K q (fs.map V.int)))
theorem drJ_loc (K : PySem.W.Frag) : DrLocal (DrJ K) := fun H H' d g D e1 e2 => by
  obtain ⟨t, m, q, fs, h1, a, b, c, e, h3⟩ := D.ex
  refine ⟨t, m, q, fs, by rw [e1]; exact h1, a, b, c, e, ?_⟩
  rcases h3 with ⟨rfl, h3⟩ | h3
  · refine .inl ⟨rfl, ?_⟩
    rcases h3 with h3 | ⟨o, h3⟩
    · exact .inl (by rw [e2]; exact h3)
    · exact .inr ⟨o, by rw [e2]; exact h3⟩
  · exact .inr h3
theorem drJ_there (K : PySem.W.Frag) : DrThere (DrJ K) := fun H d g D => by
  obtain ⟨t, m, q, fs, h1, _, _, _, _, h3⟩ := D.ex
  rcases h3 with ⟨rfl, h3 | ⟨o, h3⟩⟩ | ⟨rfl, _⟩
  · exact ⟨⟨_, h1⟩, ⟨_, h3⟩⟩
  · exact ⟨⟨_, h1⟩, ⟨_, h3⟩⟩
  · exact ⟨⟨_, h1⟩, ⟨_, h1⟩⟩
theorem DrJ.sq {K : PySem.W.Frag} {H : Hp} {d g : Addr} (D : DrJ K H d g) : ∃ (t m : Int) (q : Addr) (fs : List Int), H d = some (.dK (kv3 q t m)) ∧ 0 ≤ t ∧ t ≤ fs.length ∧ 0 ≤ m ∧ m < 2147483629 ∧ SqL K H q (fs.map V.int) ∧
    ∀ (t' m' : Int), 0 ≤ t' → t' ≤ fs.length → 0 ≤ m' → m' < 2147483629 → DrJ K (upd H d (.dK (kv3 q t' m'))) d g ∧ SqL K (upd H d (.dK (kv3 q t' m'))) q (fs.map V.int) := by
  obtain ⟨t, m, q, fs, h1, a, b, c, e, h3⟩ := D.ex
  refine ⟨t, m, q, fs, h1, a, b, c, e, h3.elim (fun z => .inl z.2) fun z => .inr z.2, fun t' m' a' b' c' e' => ?_⟩
  have key : (q = g ∧ Rd (upd H d (.dK (kv3 q t' m'))) q (.lst (fs.map V.int))) ∨ (g = d ∧ constL K q (fs.map V.int)) := by
    rcases h3 with ⟨rfl, h3⟩ | h3
    · have hne : q ≠ d := fun z => by
        subst z
        rcases h3 with h3 | ⟨o, h3⟩
        · rw [h1] at h3; cases h3
        · rw [h1] at h3; cases h3
      refine .inl ⟨rfl, ?_⟩
      rcases h3 with h3 | ⟨o, h3⟩
      · exact .inl (by rw [upd_ne hne]; exact h3)
      · exact .inr ⟨o, by rw [upd_ne hne]; exact h3⟩
    · exact .inr h3
  exact ⟨⟨t', m', q, fs, upd_same, a', b', c', e', key⟩, key.elim (fun z => .inl z.2) fun z => .inr z.2⟩
section
variable {P : Program} {w : World} {K : PySem.W.Frag} {mg : Str → Option Value} {base : Heap}
abbrev jarT (K : PySem.W.Frag) : List (TE × TE) := [(tC (.str "draws"), tVar 1), (tC (.str "at"), tC (.int 0)), (tC (.str "more"), tOp (rI (fun _ j => 0 < j) fun i j => .int (i % j)) (tOp (rI0 fun i j => .int (i + j)) (tC (.int 7919)) (tOp (rI CMul fun i j => .int (i * j)) (tC (.int 40693)) (tCB (rSum K) (tCons (tVar 1) tNil)))) (tC (.int 2147483629)))]
def jarEnd (ρ : Env) : Prop := ∃ fs : List Int, ρ[1]? = some (some (.own (fs.map PyData.int)))
abbrev jarE : En := ⟨jarEnd, fun _ => False, fun _ => False, fun _ => False, fun _ => False⟩
theorem jar_ok {x : Str} {st s1 s2 s3 : Stmt} {f : Addr} {fd : FuncData} {N : List Str} {nm : List (Str × NameKind)} {k : Nat} {f1 f2 : Sm} (F : Fun K x x st f fd) (S : FnScope N ["script"] (defScope st)) (hnm : (defScope st).names = nm)
    (hbody : defBody st = [s1, s2, s3]) (hb1 : XS (mkK P w K mg base k N nm fam0) s1 f1) (hb2 : XS (mkK P w K mg base k N nm fam0) s2 f2) (hb3 : ∀ X, Cn (mkK P w K mg base k N nm fam0) X → PS X s3 (tRet (tDisp (jarT K))))
    (hdata : ∀ ns : List Int, ns.length ≤ 63 → f1 ⟨f2 jarE, fun _ => False, fun _ => False, fun _ => False, fun _ => False⟩ (some (.dat (.list (ns.map PyData.int))) :: List.replicate (N.length - 1) none)) : FnOk P w K mg base CX0 (k + 1) f fd ["script"] (spPo K (DrJ K) []) := by
  obtain ⟨t1, a1, r1⟩ := hb1
  obtain ⟨t2, a2, r2⟩ := hb2
  refine F.ok S (fun vs H Q E h => ?_) (fun cdv A outer s H vs Q E hr h => ?_)
  · obtain ⟨a, ns, rfl, _⟩ := h
    rfl
  obtain ⟨a, ns, rfl, hS, h63, q⟩ := h
  have cn := cn_start (P := P) (w := w) (K := K) (mg := mg) (base := base) (x := x) (qual := x) (st := st) (f := f) (cdv := cdv) (A := A) (outer := outer) (s := s) (H := H) (E := E) (fam := fam0) S hnm hr
  rw [hbody]
  refine ⟨_, pss_cons (a1 _ cn) (pss_cons (a2 _ cn) (pss_one (hb3 _ cn))), ?_⟩
  have hpl : 1 ≤ N.length := by have := congrArg List.length S.pre; rw [List.length_take] at this; simp at this; omega
  have dv : DvAll K H [V.ref a] [.list (ns.map PyData.int)] := .cons (.lst hS (by rw [List.length_map]; exact le_line (by omega)) (ints_dv ns)) .nil
  have hd := hdata ns h63
  refine r1 0 _ ⟨rfl, rfl⟩ _ _ H H e0 _ _ (sr_start (W := ⟨K, 0, fun Hq => Hq = e0⟩) (N := N) ⟨e0, fun b => .inl ⟨rfl, rfl, rfl⟩, rfl⟩ (CAll.of dv) (by simpa using hpl)) hd ⟨fun σ ρ H1 Hs1 e sr sm => ?_, fun _ _ _ _ e => False.elim e, fun _ _ _ _ e => False.elim e, fun _ _ _ _ e => False.elim e, fun _ _ _ _ _ e => False.elim e⟩
  refine r2 0 _ ⟨rfl, rfl⟩ _ _ H1 Hs1 e0 ρ _ sr e ⟨fun σ2 ρ2 H2 Hs2 e2 sr2 sm2 => ?_, fun _ _ _ _ e => False.elim e, fun _ _ _ _ e => False.elim e, fun _ _ _ _ e => False.elim e, fun _ _ _ _ _ e => False.elim e⟩
  obtain ⟨fs, hfs⟩ := e2
  obtain ⟨Ho, s0⟩ := sr2
  obtain ⟨p, xs, hv, hp, hz, ha⟩ := s0.own.get 1 _ hfs
  have hH : H2 p = some (.lst xs) := s0.g.visr _ _ (plus_l hp)
  cases ha.ints (asInts_map fs)
  intro d hd
  have hne : p ≠ d := ne_of_none hH hd
  have hH' : SqL K (upd H2 d (.dK [])) p (fs.map V.int) := SqL.of (by rw [upd_ne hne]; exact hH)
  refine ⟨_, hv, _, hv, p, fs, rfl, hH', _, _, rfl, rfl, .inl ⟨by decide, by decide⟩, _, _, rfl, rfl, _, _, rfl, rfl, (by show (0 : Int) < 2147483629; decide), upd_same, kv3 p 0 _, rfl, (by unfold kv3; simp), ?_⟩
  rw [mk3]
  refine q d p _ ⟨0, _, p, fs, upd_same, Int.le_refl 0, by omega, Int.emod_nonneg _ (by decide), Int.emod_lt_of_pos _ (by decide), .inl ⟨rfl, .inl ?_⟩⟩
  rw [upd_ne hne, upd_ne hne]; exact hH
end
end DL
set_option Elab.async false
set_option linter.all false
set_option maxRecDepth 100000
set_option maxHeartbeats 400000
namespace L2
open PySem
section
variable {X : Cx}
theorem isi_tl {s : Shared} {u : Value} {x : V} {H : Hp} {pins : List (Addr × Obj)} {σ : St} (I : Inv X pins σ H s) (r : RelV x u) {Tx : String} (hx : tyOf X.K H x Tx) :
    s.TypeIs u Tx ∧ AnswersAll (fun s => s.TypeIs u Tx) u [.type "tuple", .type "list"] [Tx == "tuple", Tx == "list"] :=
  let ⟨a, b, c, d⟩ := isi_lt I r hx; ⟨a, c, b, d⟩
def tIsiTL (K : PySem.W.Frag) (te : TE) : TE := fun σ H Q => te σ H fun x H1 => ∃ Tx, tyOf K H1 x Tx ∧ Q (.bl (Tx == "tuple" || Tx == "list")) H1
theorem pe_isiTL {e : Expr} {te : TE} {p p1 p2 pt pos : Pos} {k : Nat} (hg : Gl X "isinstance") (hm : X.mg "isinstance" = none) (hg1 : Gl X "tuple") (hm1 : X.mg "tuple" = none) (hg2 : Gl X "list") (hm2 : X.mg "list" = none) (he : PE X e te)
    (hs : starEach [e, .Tuple [.Name "tuple" p1, .Name "list" p2] k pt] X.env = (false, eval e X.env) :: starEach [.Tuple [.Name "tuple" p1, .Name "list" p2] k pt] X.env := by rfl)
    (hs0 : starEach [.Tuple [.Name "tuple" p1, .Name "list" p2] k pt] X.env = [(false, eval (.Tuple [.Name "tuple" p1, .Name "list" p2] k pt) X.env)] := by rfl)
    (hs1 : starEach [.Name "tuple" p1, .Name "list" p2] X.env = [(false, eval (.Name "tuple" p1) X.env), (false, eval (.Name "list" p2) X.env)] := by rfl) :
    PE X (.Call (.Name "isinstance" p) [e, .Tuple [.Name "tuple" p1, .Name "list" p2] k pt] [] pos) (tIsiTL X.K te) := by
  refine ⟨?_⟩
  intro pins s σ H Q I h
  refine wpAny_Call_Name_kw (ld_blt (u := .builtin "isinstance") I hg hm (by decide +kernel) ?_)
  refine PyProof.Rows.callWith_builtin1 ?_ hs (by rw [hs0]; rfl)
  rw [hs, hs0]
  refine Calls.spliced_cons (thn (he pins s σ H _ I h) fun u s1 ⟨x, H1, I1, r1, Tx, hx, q⟩ => ?_)
  refine Calls.spliced_cons (wpAny_Tuple_spliced (x1 := k) (pos := pt) ?_)
  rw [hs1]
  refine Calls.spliced_cons (ld_blt (u := .type "tuple") I1 hg1 hm1 (by decide +kernel) ?_)
  refine Calls.spliced_cons (ld_blt (u := .type "list") I1 hg2 hm2 (by decide +kernel) (Calls.spliced_nil ⟨by show 2 ≤ sizeLine; decide, Calls.spliced_nil ?_⟩))
  obtain ⟨ty, an⟩ := isi_tl I1 r1 hx
  have I2 : ∀ tk, Inv X pins σ H1 { s1 with heap := s1.heap.push { cls := .type "tuple", data := .seq [Value.type "tuple", Value.type "list"].toArray }, toks := tk } := fun tk => I1.kept fun b o e => Heap.get?_push_of_some _ e
  have ty2 := (isi_tl (I2 s1.toks) r1 (Tx := Tx) hx).1
  refine call_isinstance (isinstance_tuple an) ⟨ty2, Heap.get?_push_size _ rfl, fun tk => ⟨.bl _, H1, I2 tk, rfl, ?_⟩⟩
  simpa using q
end
end L2
set_option Elab.async false
set_option linter.all false
set_option maxRecDepth 100000
set_option maxHeartbeats 400000
namespace DL
open PySem L2
def optK {α : Type} (o : Option α) (k : α → Prop) : Prop := match o with | some x => k x | none => False
def plc (ds : List PyData) (z : PyData) : Option Nat := match z with | .int k => ixN ds.length k | _ => none
def asI (d : PyData) : Option Int := match d with | .int k => some k | _ => none
theorem DvAll.set {K : PySem.W.Frag} {H : Hp} {v : V} {d : PyData} (hv : Dv K H v d) : ∀ {vs : List V} {ds : List PyData} (j : Nat), DvAll K H vs ds → DvAll K H (vs.set j v) (ds.set j d)
  | _, _, _, .nil => .nil
  | _, _, 0, .cons _ r => .cons hv r
  | _, _, j + 1, .cons a r => .cons a (DvAll.set hv j r)
theorem Dv.isInt {K : PySem.W.Frag} {H : Hp} {v : V} {k : Int} (h : Dv K H v (.int k)) : v = .int k := by cases h; rfl
section
variable {W : Wd}
def sPutS (i : Nat) (fi fe : Env → Pp PyData) : Sm := fun E ρ => ∃ ds, ρ[i]? = some (some (.own ds)) ∧ fe (frzAll ρ) fun d => fi (frzAll ρ) fun z => noList d = true ∧ optK (plc ds z) fun j => E.nx (ρ.set i (some (.own (ds.set j d))))
def sAugI (f : Int → Int → Int) (i : Nat) (fi fe : Env → Pp PyData) : Sm := fun E ρ => ∃ ds, ρ[i]? = some (some (.own ds)) ∧ fi (frzAll ρ) fun z => optK (plc ds z) fun j => optK (ds[j]?.bind asI) fun a => fe (frzAll ρ) fun d => optK (asI d) fun b => E.nx (ρ.set i (some (.own (ds.set j (.int (f a b))))))
end
section
variable {κ : Kx} {e ei : Expr} {fe fi : Env → Pp PyData} {p pos tpos : Pos}
variable {a : Expr} {fa : Env → Pp PyData} {p1 p2 : Pos}
theorem x_isiTL {k : Nat} {pt : Pos} (hm : κ.mg "isinstance" = none) (hm1 : κ.mg "tuple" = none) (hm2 : κ.mg "list" = none) (ha : XE κ a fa) (hg : κ.nm.lookup ("isinstance" : Str) = some .globalImplicit := by rfl) (hg1 : κ.nm.lookup ("tuple" : Str) = some .globalImplicit := by rfl) (hg2 : κ.nm.lookup ("list" : Str) = some .globalImplicit := by rfl)
    (hs : ∀ env : PySem.Env, starEach [a, .Tuple [.Name "tuple" p1, .Name "list" p2] k pt] env = (false, eval a env) :: starEach [.Tuple [.Name "tuple" p1, .Name "list" p2] k pt] env := by intro _; rfl)
    (hs0 : ∀ env : PySem.Env, starEach [.Tuple [.Name "tuple" p1, .Name "list" p2] k pt] env = [(false, eval (.Tuple [.Name "tuple" p1, .Name "list" p2] k pt) env)] := by intro _; rfl)
    (hs1 : ∀ env : PySem.Env, starEach [.Name "tuple" p1, .Name "list" p2] env = [(false, eval (.Name "tuple" p1) env), (false, eval (.Name "list" p2) env)] := by intro _; rfl) :
    XE κ (.Call (.Name "isinstance" p) [a, .Tuple [.Name "tuple" p1, .Name "list" p2] k pt] [] pos) (eIsiLT fa) :=
  let ⟨_, h1, r1⟩ := ha; ⟨_, fun X h => by have := pe_isiTL (p := p) (pos := pos) (gl_of h hg) (by rw [h.mg]; exact hm) (gl_of h hg1) (by rw [h.mg]; exact hm1) (gl_of h hg2) (by rw [h.mg]; exact hm2) (h1 X h) (hs _) (hs0 _) (hs1 _); rw [h.kk] at this; exact this,
    fun d Pt hF σ H Hs Hr ρ Q Q0 g er h k => r1 d Pt hF σ H Hs Hr ρ (fun x H1 => ∃ Tx, tyOf κ.K H1 x Tx ∧ Q (.bl (Tx == "tuple" || Tx == "list")) H1) _ g er h fun a x H1 Hs1 h1 g1 s1 c1 => ⟨tyD a, tyOf_d ((c1.dv h1.1).mono g1.vis), by rw [Bool.or_comm]; exact k _ _ H1 Hs1 h1.2 g1 s1 (CRel.of (.bl _))⟩⟩
end
end DL
set_option Elab.async false
set_option linter.all false
set_option maxRecDepth 100000
set_option maxHeartbeats 400000
namespace HT
open PySem PySem.Spec PyProof.Rows
section
variable {prog : Program} {w : World} {A : Around} {E : Value → Shared → Prop} {s : Shared}
end
end HT
set_option Elab.async false
set_option linter.all false
set_option maxRecDepth 100000
set_option maxHeartbeats 400000
namespace L2
open PySem PySem.Spec PyProof.Rows
section
variable {X : Cx} {e st : Expr} {te ts : TE} {p2 pos : Pos}
def rRev (K : PySem.W.Frag) : V → Hp → VK → Prop := fun x H Q => ∃ a xs, x = .ref a ∧ ((SqL K H a xs ∧ ∀ p, H p = none → Q (.ref p) (upd H p (.lst xs.reverse))) ∨ (SqT K H a xs ∧ ∀ p, H p = none → Q (.ref p) (upd H p (.tup xs.reverse))))
def tRev (K : PySem.W.Frag) (te ts : TE) : TE := fun σ H Q => te σ H fun x H1 => ts σ H1 fun y H2 => y = .int (-1) ∧ rRev K x H2 Q
end
section
variable {X : Cx}
def insAt {α : Type} (xs : List α) (i : Int) (v : α) : List α := let k := if i < 0 then (i + (xs.length : Int)).toNat else min i.toNat xs.length; xs.take k ++ v :: xs.drop k
def rInsert : V → List V → Hp → VK → Prop := fun x vs H Q => ∃ l xs i y, x = .ref l ∧ vs = [.int i, y] ∧ H l = some (.lst xs) ∧ -(2 ^ 63) ≤ i ∧ i < 2 ^ 63 ∧ xs.length < sizeLine ∧ Q .non (upd H l (.lst (insAt xs i y)))
end
end L2
namespace DL
open PySem PySem.Spec PyProof.Rows L2
def dRev (a b : PyData) : Option PyData := match a, b with
  | .list xs, .int (-1) => some (.list xs.reverse)
  | .tuple xs, .int (-1) => some (.tuple xs.reverse)
  | _, _ => none
section
variable {κ : Kx} {a b e ei : Expr} {fa fb fe fi : Env → Pp PyData} {p p2 pos : Pos}
abbrev dShl := dI (fun i j => decide (0 ≤ j) && (decide (j ≤ 1000000) && decide (i.natAbs < 2 ^ 64))) fun i j => .int (i * 2 ^ j.toNat)
abbrev dShr := dI (fun _ j => decide (0 ≤ j)) fun i j => .int (i / 2 ^ j.toNat)
abbrev dBand := dI0 fun i j => .int (Builtin.bitAnd i j)
end
def RIN (W : Wd) (wi : TI) (f : Env → Pp (List PyData)) : Prop := ∀ σ H Hs Hr ρ (R : It → Hp → Prop) (Q0 : List PyData → Prop), G W Hr H Hs → ER W Hs σ ρ → f ρ Q0 →
  (∀ ds I H' Hs', Q0 ds → G W Hr H' Hs' → Same Hs Hs' → (∀ Hs, ItOk W I Hs ds) → R I H') → wi σ H R
section
variable {W : Wd}
def sForS (it : Env → Pp (List PyData)) (fg : PyData → Env → Pp Env) (fb : Sm) : Sm := fun E ρ => it (frzAll ρ) fun ds => forGo fg fb E ds ρ
theorem DvAll.ins {K : PySem.W.Frag} {H : Hp} {v : V} {d : PyData} (hv : Dv K H v d) {vs : List V} {ds : List PyData} (i : Int) (h : DvAll K H vs ds) : DvAll K H (insAt vs i v) (insAt ds i d) := by
  unfold insAt
  rw [h.length]
  exact (h.take _).append (.cons hv (h.drop _))
def sPop (i : Nat) (fi : Env → Pp PyData) (fg : PyData → Env → Pp Env) : Sm := fun E ρ => ∃ ds, ρ[i]? = some (some (.own ds)) ∧ fi (frzAll ρ) fun z => optK (plc ds z) fun j => optK ds[j]? fun d => fg d (ρ.set i (some (.own (ds.eraseIdx j)))) E.nx
def sPopD (i : Nat) (fi : Env → Pp PyData) : Sm := fun E ρ => ∃ ds, ρ[i]? = some (some (.own ds)) ∧ fi (frzAll ρ) fun z => optK (plc ds z) fun j => E.nx (ρ.set i (some (.own (ds.eraseIdx j))))
def sIns (i : Nat) (fi fe : Env → Pp PyData) : Sm := fun E ρ => ∃ ds, ρ[i]? = some (some (.own ds)) ∧ fi (frzAll ρ) fun z => fe (frzAll ρ) fun d => (noList d = true ∧ ds.length < sizeLine) ∧ optK (asI z) fun k => (-1000000 ≤ k ∧ k ≤ 1000000) ∧ E.nx (ρ.set i (some (.own (insAt ds k d))))
end
section
variable {κ : Kx} {e ei : Expr} {fe fi : Env → Pp PyData} {p pos : Pos}
variable {tg a b : Expr} {is : List Nat} {fg : PyData → Env → Pp Env} {fs : Env → Pp (List PyData)} {f : Sm}
end
end DL
set_option Elab.async false
set_option linter.all false
set_option maxRecDepth 100000
set_option maxHeartbeats 1600000
namespace DS
open PySem PySem.Spec PyProof.Rows L2
section
variable {prog : Program} {w : World} {A : Around} {E : Value → Shared → Prop} {R : Result → Shared → Prop} {I S l : Addr} {its : List Value} {ds : List PyData} {as : List Addr} {h0 : Heap} {kw : List (Str × Value)}
variable {X : Cx}
def rMin2 (K : PySem.W.Frag) : List V → Hp → VK → Prop := fun vs H Q => ∃ (x y : V) (d e : PyData) (bt : Bool), vs = [x, y] ∧ Dp K H x d ∧ Dp K H y e ∧ cmpD .Lt 3 e d = some bt ∧ Q (if bt = true then y else x) H
end
end DS
set_option Elab.async false
set_option linter.all false
set_option maxRecDepth 100000
set_option maxHeartbeats 400000
namespace DL
open PySem L2
def dLess2 : List PyData → Option PyData
  | [a, b] => match DS.cmpD .Lt 3 b a with
    | some true => some b
    | some false => some a
    | none => none
  | _ => none
section
variable {κ : Kx} {a b : Expr} {fs : Env → Pp (List PyData)} {p pos : Pos}
variable {fa fb : Env → Pp PyData}
def eIndex (fa fb : Env → Pp PyData) : Env → Pp PyData := fun ρ => bnd (fa ρ) fun a => match a with
  | .list xs => bnd (fb ρ) fun b => fun Q => (flatD b = true ∧ xs.all flatD = true) ∧ optK (xs.findIdx? fun z => PyData.eqv z b) fun j => Q (.int (j : Int))
  | _ => fail
end
end DL
set_option Elab.async false
set_option linter.all false
set_option maxRecDepth 100000
set_option maxHeartbeats 400000
namespace L2
open PySem PySem.Spec PyProof.Rows
section
variable {prog : Program} {w : World} {A : Around} {E : Value → Shared → Prop} {s : Shared}
abbrev tm1 (h : Heap) (a : Addr) : Heap := h.push { cls := .type "tuple_iterator", data := .fields #[.ref a, .int 0 0] }
abbrev tm2 (h : Heap) (a b : Addr) : Heap := (tm1 h a).push { cls := .type "list_iterator", data := .fields #[.ref b, .int 0 0] }
abbrev tm3 (h : Heap) (a b : Addr) : Heap := (tm2 h a b).push { cls := .type "tuple", data := .seq #[.ref h.objs.size, .ref (tm1 h a).objs.size] }
abbrev tm4 (h : Heap) (a b : Addr) : Heap := (tm3 h a b).push { cls := .type "tuple", data := .seq #[.none, .none] }
abbrev tm5 (h : Heap) (a b : Addr) : Heap := (tm4 h a b).push { cls := .type "zip", data := .fields #[.none, .bool false, .bool false, .ref (tm2 h a b).objs.size, .ref (tm3 h a b).objs.size] }
end
def Itzm (K : PySem.W.Frag) (a b : Addr) : It :=
  ⟨fun i H => ∃ (xs ys : List V) (x y : V), SqT K H a xs ∧ SqL K H b ys ∧ xs[i]? = some x ∧ ys[i]? = some y,
    fun i H v H' => ∃ T x y, v = .ref T ∧ H T = none ∧ H' = upd H T (.tup [x, y]) ∧ (∀ xs, SqT K H a xs → xs[i]? = some x) ∧ ∀ ys, SqL K H b ys → ys[i]? = some y, fun i H => ∃ xs : List V, SqT K H a xs ∧ xs.length ≤ i⟩
def iZipM (K : PySem.W.Frag) (ta : TA) : TI := fun σ H R => ta σ H fun vs H1 => ∃ a b xs ys, vs = [.ref a, .ref b] ∧ SqT K H1 a xs ∧ SqL K H1 b ys ∧ R (Itzm K a b) H1
end L2
set_option Elab.async false
set_option linter.all false
set_option maxRecDepth 100000
set_option maxHeartbeats 400000
namespace DL
open PySem L2
def iZm (fs : Env → Pp (List PyData)) : Env → Pp (List PyData) := fun ρ => bnd (fs ρ) fun ds => match ds with
  | [.tuple xs, .list ys] => fun Q => xs.length = ys.length ∧ Q (zipD xs ys)
  | _ => fail
section
variable {κ : Kx} {a b : Expr} {fs : Env → Pp (List PyData)} {p p1 pos : Pos}
end
end DL
set_option Elab.async false
set_option linter.all false
set_option maxRecDepth 100000
set_option maxHeartbeats 400000
namespace L2
open PySem
section
variable {X : Cx}
def tIsiIT (K : PySem.W.Frag) (te : TE) : TE := fun σ H Q => te σ H fun x H1 => ∃ Tx, tyOf K H1 x Tx ∧ Q (.bl (isiA Tx "int" || Tx == "tuple")) H1
end
end L2
set_option Elab.async false
set_option linter.all false
set_option maxRecDepth 100000
set_option maxHeartbeats 400000
namespace DL
open PySem L2
def eIsiIT (fa : Env → Pp PyData) : Env → Pp PyData := fun ρ => bnd (fa ρ) fun a => fun Q => noPot a = true ∧ Q (.bool (isiA (tyD a) "int" || tyD a == "tuple"))
@[simp] theorem s_isiIT {fa : Env → Pp PyData} {ρ : Env} {Q : PyData → Prop} : eIsiIT fa ρ Q = fa ρ fun a => noPot a = true ∧ Q (.bool (isiA (tyD a) "int" || tyD a == "tuple")) := rfl
section
variable {κ : Kx}
variable {a : Expr} {fa : Env → Pp PyData} {p p1 p2 pos : Pos}
end
end DL
set_option Elab.async false
set_option linter.all false
set_option maxRecDepth 100000
set_option maxHeartbeats 1000000
namespace L2
open PySem PySem.Spec PyProof.Rows
section
variable {prog : Program} {w : World} {A : Around} {E : Value → Shared → Prop} {s : Shared}
abbrev te1 (h : Heap) (t : Addr) : Heap := h.push { cls := .type "tuple_iterator", data := .fields #[.ref t, .int 0 0] }
abbrev te2 (h : Heap) (t : Addr) : Heap := (te1 h t).push { cls := .type "enumerate", data := .fields #[.none, .bool false, .ref h.objs.size, rawInt 0, .none, .none] }
end
def Itet (K : PySem.W.Frag) (a : Addr) : It :=
  ⟨fun i H => ∃ (xs : List V) (x : V), SqT K H a xs ∧ xs[i]? = some x, fun i H v H' => ∃ T x, v = .ref T ∧ H T = none ∧ H' = upd H T (.tup [.int (i : Nat), x]) ∧ ∀ xs, SqT K H a xs → xs[i]? = some x, fun i H => ∃ xs : List V, SqT K H a xs ∧ xs.length ≤ i⟩
def iEnumT (K : PySem.W.Frag) (ta : TA) : TI := fun σ H R => ta σ H fun vs H1 => ∃ a xs, vs = [.ref a] ∧ SqT K H1 a xs ∧ R (Itet K a) H1
end L2
set_option Elab.async false
set_option linter.all false
set_option maxRecDepth 100000
set_option maxHeartbeats 400000
namespace DL
open PySem L2
section
variable {W : Wd}
def iEnT (fs : Env → Pp (List PyData)) : Env → Pp (List PyData) := fun ρ => bnd (fs ρ) fun ds => match ds with
  | [.tuple xs] => ret (enumD xs)
  | _ => fail
end
section
variable {κ : Kx} {a : Expr} {fs : Env → Pp (List PyData)} {pos p p1 : Pos}
end
def enTK (ds : List PyData) (Q : List PyData → Prop) : Prop := match ds with
  | [.tuple xs] => Q (enumD xs)
  | _ => False
@[simp] theorem s_enTK {xs : List PyData} {Q : List PyData → Prop} : enTK [.tuple xs] Q = Q (enumD xs) := rfl
@[simp] theorem s_iEnT {fs : Env → Pp (List PyData)} {ρ : Env} {Q : List PyData → Prop} : iEnT fs ρ Q = fs ρ fun ds => enTK ds Q := by
  show (fs ρ fun ds => (match ds with
  | [.tuple xs] => ret (enumD xs)
  | _ => fail : Pp (List PyData)) Q) = _
  refine congrArg (fs ρ) (funext fun ds => ?_)
  match ds with
  | [.tuple xs] => rfl
  | [] => rfl
  | [.none] => rfl
  | [.bool _] => rfl
  | [.int _] => rfl
  | [.str _] => rfl
  | [.list _] => rfl
  | [.dict _] => rfl
  | a :: _ :: _ => cases a <;> rfl
end DL
set_option Elab.async false
set_option linter.all false
set_option maxRecDepth 100000
set_option maxHeartbeats 400000
namespace DL
open PySem L2
def GI (mg : Str → Option Value) (x : Str) (n : Int) : Prop := ∃ t, mg x = some (.int n t)
section
variable {κ : Kx} {pos p tpos : Pos}
end
section
variable {W : Wd}
def sPut (i : Nat) (fi fe : Env → Pp PyData) : Sm := fun E ρ => ∃ ds, ρ[i]? = some (some (.own ds)) ∧ fe ρ fun d => fi ρ fun z => noPot d = true ∧ optK (plc ds z) fun j => E.nx (ρ.set i (some (.own (ds.set j d))))
@[simp] theorem s_sPut {i : Nat} {fi fe : Env → Pp PyData} {E : En} {ρ : Env} : sPut i fi fe E ρ = ∃ ds, ρ[i]? = some (some (.own ds)) ∧ fe ρ fun d => fi ρ fun z => noPot d = true ∧ optK (plc ds z) fun j => E.nx (ρ.set i (some (.own (ds.set j d)))) := rfl
def iEnA (fs : Env → Pp (List PyData)) : Env → Pp (List PyData) := fun ρ => bnd (fs ρ) fun ds => match ds with
  | [.list xs] => ret (enumD xs)
  | [.tuple xs] => ret (enumD xs)
  | _ => fail
def iEnumA (K : PySem.W.Frag) (ta : TA) : TI := fun σ H R => ta σ H fun vs H1 => ∃ a xs, vs = [.ref a] ∧ ((SqL K H1 a xs ∧ R (Ite K a) H1) ∨ (SqT K H1 a xs ∧ R (Itet K a) H1))
end
section
open PySem.Spec PyProof.Rows
end
section
variable {κ : Kx} {a : Expr} {fs : Env → Pp (List PyData)} {pos p p1 : Pos}
end
section
variable {κ : Kx} {e ei : Expr} {fi fe : Env → Pp PyData} {pos p tpos : Pos}
end
def enAK (ds : List PyData) (Q : List PyData → Prop) : Prop := match ds with
  | [.list xs] => Q (enumD xs)
  | [.tuple xs] => Q (enumD xs)
  | _ => False
@[simp] theorem s_enAL {xs : List PyData} {Q : List PyData → Prop} : enAK [.list xs] Q = Q (enumD xs) := rfl
@[simp] theorem s_enAT {xs : List PyData} {Q : List PyData → Prop} : enAK [.tuple xs] Q = Q (enumD xs) := rfl
@[simp] theorem s_iEnA {fs : Env → Pp (List PyData)} {ρ : Env} {Q : List PyData → Prop} : iEnA fs ρ Q = fs ρ fun ds => enAK ds Q := by
  show (fs ρ fun ds => (match ds with
  | [.list xs] => ret (enumD xs)
  | [.tuple xs] => ret (enumD xs)
  | _ => fail : Pp (List PyData)) Q) = _
  refine congrArg (fs ρ) (funext fun ds => ?_)
  match ds with
  | [.tuple xs] => rfl
  | [] => rfl
  | [.none] => rfl
  | [.bool _] => rfl
  | [.int _] => rfl
  | [.str _] => rfl
  | [.list _] => rfl
  | [.dict _] => rfl
  | a :: _ :: _ => cases a <;> rfl
end DL
set_option Elab.async false
set_option linter.all false
set_option maxRecDepth 100000
set_option maxHeartbeats 400000
namespace DL
open PySem L2
@[simp] theorem s_gAL {n : Nat} {fs : List PyData → Env → Pp Env} {ds : List PyData} {ρ : Env} {Q : Env → Prop} : gA n fs (.list ds) ρ Q = if ds.length = n then fs ds ρ Q else False := by
  show (if ds.length = n then fs ds ρ else fail : Pp Env) Q = _
  split <;> rfl
@[simp] theorem s_gAT {n : Nat} {fs : List PyData → Env → Pp Env} {ds : List PyData} {ρ : Env} {Q : Env → Prop} : gA n fs (.tuple ds) ρ Q = if ds.length = n then fs ds ρ Q else False := by
  show (if ds.length = n then fs ds ρ else fail : Pp Env) Q = _
  split <;> rfl
end DL
set_option Elab.async false
set_option linter.all false
set_option maxRecDepth 100000
set_option maxHeartbeats 400000
namespace DL
open PySem L2
def noLs (es : List PyData) : Bool := es.all noList
def NewC (K : PySem.W.Frag) (Hb Hs : Hp) (v : V) (d : PyData) : Prop := noList d = true ∨ ∃ q xs es, v = .ref q ∧ d = .list es ∧ Hs q = some (.lst xs) ∧ Hb q = none ∧ noLs es = true ∧ xs.length ≤ sizeLine ∧ DvAll K Hs xs es
inductive NewAll (K : PySem.W.Frag) (Hb Hs : Hp) : List V → List PyData → Prop
  | nil : NewAll K Hb Hs [] []
  | cons {v : V} {d : PyData} {vs : List V} {ds : List PyData} : NewC K Hb Hs v d → NewAll K Hb Hs vs ds → NewAll K Hb Hs (v :: vs) (d :: ds)
theorem NewC.mono {K : PySem.W.Frag} {Hb Hs Hs' : Hp} {v : V} {d : PyData} (s : Same Hs Hs') : NewC K Hb Hs v d → NewC K Hb Hs' v d
  | .inl h => .inl h
  | .inr ⟨q, xs, es, a, b, c, e, f, z, v⟩ => .inr ⟨q, xs, es, a, b, s _ _ c, e, f, z, v.mono s⟩
theorem none_down {H H' : Hp} {q : Addr} (s : Same H H') (h : H' q = none) : H q = none := by
  cases e : H q with
  | none => rfl
  | some o => rw [s _ _ e] at h; cases h
theorem NewC.down {K : PySem.W.Frag} {Hb Hb' Hs : Hp} {v : V} {d : PyData} (s : Same Hb Hb') : NewC K Hb' Hs v d → NewC K Hb Hs v d
  | .inl h => .inl h
  | .inr ⟨q, xs, es, a, b, c, e, f⟩ => .inr ⟨q, xs, es, a, b, c, none_down s e, f⟩
theorem NewAll.mono {K : PySem.W.Frag} {Hb Hs Hs' : Hp} (s : Same Hs Hs') : ∀ {vs : List V} {ds : List PyData}, NewAll K Hb Hs vs ds → NewAll K Hb Hs' vs ds
  | _, _, .nil => .nil
  | _, _, .cons h r => .cons (h.mono s) (r.mono s)
theorem NewAll.down {K : PySem.W.Frag} {Hb Hb' Hs : Hp} (s : Same Hb Hb') : ∀ {vs : List V} {ds : List PyData}, NewAll K Hb' Hs vs ds → NewAll K Hb Hs vs ds
  | _, _, .nil => .nil
  | _, _, .cons h r => .cons (h.down s) (r.down s)
section
variable {W : Wd}
def RAN (W : Wd) (t : TA) (f : Env → Pp (List PyData)) : Prop := ∀ σ H Hs Hr ρ (Q : List V → Hp → Prop) (Q0 : List PyData → Prop), G W Hr H Hs → ER W Hs σ ρ → f ρ Q0 →
  (∀ ds vs H' Hs', Q0 ds → G W Hr H' Hs' → Same Hs Hs' → CAll W Hs' vs ds → NewAll W.K Hs Hs' vs ds → Q vs H') → t σ H Q
def anE (fa : Env → Pp PyData) (fs : Env → Pp (List PyData)) : Env → Pp (List PyData) := fun ρ => bnd (fa ρ) fun a => fun Q => noList a = true ∧ fs ρ fun as => Q (a :: as)
def anF (ff : Env → Pp (List PyData)) (fs : Env → Pp (List PyData)) : Env → Pp (List PyData) := fun ρ => bnd (ff ρ) fun es => fun Q => noLs es = true ∧ fs ρ fun as => Q (.list es :: as)
def RN (W : Wd) (t : TE) (f : Env → Pp (List PyData)) : Prop := ∀ σ H Hs Hr ρ (Q : VK) (Q0 : List PyData → Prop), G W Hr H Hs → ER W Hs σ ρ → f ρ Q0 →
  (∀ ds p vs H' Hs', Q0 ds → G W Hr H' Hs' → Same Hs Hs' → SqT W.K Hs' p vs → vs.length ≤ sizeLine → DvAll W.K Hs' vs ds → NewAll W.K Hs Hs' vs ds → Q (.ref p) H') → t σ H Q
def nTup (fs : Env → Pp (List PyData)) : Env → Pp (List PyData) := fun ρ => bnd (fs ρ) fun ds Q => (ds.all noPot = true ∧ ds.length ≤ sizeLine) ∧ Q ds
def spPN (K : PySem.W.Frag) (g : List PyData → Pp (List PyData)) : Sp := fun vs H Q _ => ∃ Hs Hr ds Q0, J H Hs e0 Hr ∧ DvAll K Hs vs ds ∧ g ds Q0 ∧ ∀ es p ws H' Hs', Q0 es → J H' Hs' e0 Hr → Same Hs Hs' → SqT K Hs' p ws → ws.length ≤ sizeLine → DvAll K Hs' ws es → NewAll K Hs Hs' ws es → Q (.ref p) H'
def RSN (W : Wd) (t : TS) (f : Env → Pp (List PyData)) : Prop := ∀ D σ H Hs Hr ρ (Q0 : List PyData → Prop), SR W Hr H Hs σ ρ → f ρ Q0 →
  (∀ es p ws H' Hs', Q0 es → G W Hr H' Hs' → Same Hs Hs' → SqT W.K Hs' p ws → ws.length ≤ sizeLine → DvAll W.K Hs' ws es → NewAll W.K Hs Hs' ws es → D.rt (.ref p) H') → t D σ H
def nSeq (f : Sm) (g : Env → Pp (List PyData)) : Env → Pp (List PyData) := fun ρ Q => f ⟨fun ρ' => g ρ' Q, fun _ => False, fun _ => False, fun _ => False, fun _ => False⟩ ρ
def nRet (f : Env → Pp (List PyData)) : Env → Pp (List PyData) := fun ρ => f (frzAll ρ)
end
def XN (κ : Kx) (e : Expr) (f : Env → Pp (List PyData)) : Prop := ∃ t, (∀ X, Cn κ X → PE X e t) ∧ ∀ d Pt, κ.fam d Pt → RN (κ.W d Pt) t f
def XAN (κ : Kx) (es : List Expr) (f : Env → Pp (List PyData)) : Prop := ∃ t, (∀ X, Cn κ X → PA X es t) ∧ ∀ d Pt, κ.fam d Pt → RAN (κ.W d Pt) t f
def XSN (κ : Kx) (ss : List Stmt) (f : Env → Pp (List PyData)) : Prop := ∃ t, (∀ X, Cn κ X → PSs X ss t) ∧ ∀ d Pt, κ.fam d Pt → RSN (κ.W d Pt) t f
section
variable {κ : Kx} {a e : Expr} {es : List Expr} {st : Stmt} {rest : List Stmt} {f : Sm} {fa : Env → Pp PyData} {ff fs g : Env → Pp (List PyData)} {pos p : Pos}
def eTN (f : Env → Pp (List PyData)) : Env → Pp PyData := fun ρ => bnd (f ρ) fun ds => ret (.tuple ds)
theorem RN.re {W : Wd} {t : TE} {f : Env → Pp (List PyData)} (h : RN W t f) : RE W t (eTN f) := fun σ H Hs Hr ρ Q Q0 g er hf k =>
  h σ H Hs Hr ρ Q (fun ds => Q0 (.tuple ds)) g er hf fun ds p vs H' Hs' q g' s' hq z a _ => k _ _ H' Hs' q g' s' (CRel.of (.tup hq z a))
theorem XN.x {f : Env → Pp (List PyData)} (h : XN κ e f) : XE κ e (eTN f) := let ⟨t, h1, h2⟩ := h; ⟨t, h1, fun d Pt hF => (h2 d Pt hF).re⟩
end
section
variable {P : Program} {w : World} {K : PySem.W.Frag} {mg : Str → Option Value} {base : Heap}
def fnPN (n : Nat) (fb : Env → Pp (List PyData)) : List PyData → Pp (List PyData) := fun ds Q => fb (env0 n ds) Q
end
end DL
set_option Elab.async false
set_option linter.all false
set_option maxRecDepth 100000
set_option maxHeartbeats 400000
namespace DL
open PySem L2
def since (Hb Hs : Hp) : Hp := fun a => match Hb a with
  | some _ => none
  | none => match Hs a with
    | some (.lst xs) => some (.lst xs)
    | _ => none
section
variable {Hb Hs : Hp}
end
theorem NewAll.get {K : PySem.W.Frag} {Hb Hs : Hp} : ∀ {vs : List V} {ds : List PyData} {i : Nat} {d : PyData}, NewAll K Hb Hs vs ds → ds[i]? = some d → ∃ v, vs[i]? = some v ∧ NewC K Hb Hs v d
  | _, _, _, _, .nil, e => by simp at e
  | _, _, 0, _, .cons r _, e => by simp at e; subst e; exact ⟨_, rfl, r⟩
  | _, _, i + 1, v, .cons _ t, e => by
    obtain ⟨d, h1, h2⟩ := NewAll.get (i := i) (d := v) t (by simpa using e)
    exact ⟨d, by simpa using h1, h2⟩
theorem NewAll.length {K : PySem.W.Frag} {Hb Hs : Hp} : ∀ {vs : List V} {ds : List PyData}, NewAll K Hb Hs vs ds → vs.length = ds.length
  | _, _, .nil => rfl
  | _, _, .cons _ t => congrArg (· + 1) (NewAll.length t)
theorem NewAll.atI {K : PySem.W.Frag} {Hb Hs : Hp} {vs : List V} {ds : List PyData} {i : Int} {d : PyData} (h : NewAll K Hb Hs vs ds) (e : atI ds i = some d) : ∃ v, L2.atI vs i = some v ∧ NewC K Hb Hs v d := by
  unfold L2.atI at e ⊢
  rw [h.length]
  cases q : ixN ds.length i with
  | none => rw [q] at e; cases e
  | some j => rw [q] at e; exact h.get e
def szOk (B : Nat) : PyData → Bool
  | .list xs => decide (xs.length ≤ B)
  | _ => true
def MutC (K : PySem.W.Frag) (Hn Hs : Hp) (B : Nat) (v : V) : Prop := ∃ q xs ds, v = .ref q ∧ Hn q = some (.lst xs) ∧ xs.length ≤ B ∧ DvAll K Hs xs ds
section
variable {W : Wd}
structure MS0 (W : Wd) (Hn Ho Hr H Hs : Hp) (σ : St) (ρ : Env) (i : Nat) (es : List PyData) (B : Nat) (p : Addr) (vs : List V) : Prop where
  an : Apart Hn (plus Ho Hr)
  ln : Lsts Hn
  ap : Apart Ho Hr
  g : G W (plus Hn (plus Ho Hr)) H Hs
  er : ER W Hs σ ρ
  own : OR W Ho Hs σ ρ
  at' : σ[i]? = some (some (.ref p))
  tup : SqT W.K Hs p vs
  mu : ∀ (j : Int) (xs : List PyData), L2.atI es j = some (.list xs) → ∃ v, L2.atI vs j = some v ∧ MutC W.K Hn Hs B v
def MS (W : Wd) (Hr H Hs : Hp) (σ : St) (ρ : Env) (i : Nat) (es : List PyData) (B : Nat) : Prop := ∃ Hn Ho p vs, MS0 W Hn Ho Hr H Hs σ ρ i es B p vs
theorem plus_assoc {A B C : Hp} : plus A (plus B C) = plus (plus A B) C := by
  funext a
  unfold plus
  cases A a <;> rfl
theorem MS.sr {Hr H Hs : Hp} {σ : St} {ρ : Env} {i : Nat} {es : List PyData} {B : Nat} (m : MS W Hr H Hs σ ρ i es B) : SR W Hr H Hs σ ρ := by
  obtain ⟨Hn, Ho, p, vs, m⟩ := m
  refine ⟨plus Hn Ho, ⟨fun a => ?_, by rw [← plus_assoc]; exact m.g, m.er, ⟨fun a o e => ?_, fun j ds e => ?_, m.own.one⟩⟩⟩
  · cases e : Hn a with
    | none =>
      rcases m.ap a with h | h
      · exact .inl (by rw [plus_r e]; exact h)
      · exact .inr h
    | some o =>
      rcases m.an a with h | h
      · rw [e] at h; cases h
      · exact .inr (plus_none h).2
  · cases e' : Hn a with
    | none => rw [plus_r e'] at e; exact m.own.lst a o e
    | some u => rw [plus_l e'] at e; cases e; exact m.ln a _ e'
  · obtain ⟨q, xs, a, b, c, d⟩ := m.own.get j ds e
    refine ⟨q, xs, a, ?_, c, d⟩
    rcases m.an q with h | h
    · rw [plus_r h]; exact b
    · rw [plus_l b] at h; cases h
abbrev Mm := List PyData → Nat → Sm
def RMM (W : Wd) (i : Nat) (t : TS) (m : Mm) : Prop := ∀ D σ H Hs Hr ρ es B E, MS W Hr H Hs σ ρ i es B → m es B E ρ → Ct W Hr Hs D E → t D σ H
def isLs : Option PyData → Bool
  | some (.list _) => true
  | _ => false
theorem MS0.put {Hn Ho Hr H Hs H' Hs' : Hp} {σ : St} {ρ : Env} {i : Nat} {es : List PyData} {B B' : Nat} {p q : Addr} {vs xs ys : List V} {fs : List PyData} (m : MS0 W Hn Ho Hr H Hs σ ρ i es B p vs) (hq : Hn q = some (.lst xs)) (g' : G W (plus Hn (plus Ho Hr)) H' Hs') (s' : Same Hs Hs') (hB : B ≤ B') (z : ys.length ≤ B') (a : DvAll W.K Hs' ys fs) :
    MS0 W (upd Hn q (.lst ys)) Ho Hr (upd H' q (.lst ys)) Hs' σ ρ i es B' p vs := by
  have hr : plus Ho Hr q = none := by
    rcases m.an q with h | h
    · rw [hq] at h; cases h
    · exact h
  have g2 := g'.putr (p := q) (o := .lst ys) (plus_l hq)
  rw [upd_plus] at g2
  refine ⟨fun b => ?_, fun b o e => ?_, m.ap, g2, m.er.mono s', m.own.mono s', m.at', Same.tup' s' m.tup, fun j xs0 e => ?_⟩
  · by_cases e : b = q
    · subst e; exact .inr hr
    · rw [upd_ne e]; exact m.an b
  · by_cases hb : b = q
    · subst hb; rw [upd_same] at e; cases e; exact ⟨ys, rfl⟩
    · rw [upd_ne hb] at e; exact m.ln b o e
  · obtain ⟨v, h1, q1, xs1, ds1, rfl, h2, h3, h4⟩ := m.mu j xs0 e
    refine ⟨_, h1, ?_⟩
    by_cases hb : q1 = q
    · subst hb; exact ⟨q1, ys, fs, rfl, upd_same, z, a⟩
    · exact ⟨q1, xs1, ds1, rfl, by rw [upd_ne hb]; exact h2, by omega, h4.mono s'⟩
def mApp (j : Int) (fe : Env → Pp PyData) (m : Mm) : Mm := fun es B E ρ => (isLs (L2.atI es j) = true ∧ B < sizeLine) ∧ fe ρ fun d => noPot d = true ∧ m es (B + 1) E ρ
theorem DvAll.reverse {K : PySem.W.Frag} {H : Hp} {vs : List V} {ds : List PyData} (h : DvAll K H vs ds) : DvAll K H vs.reverse ds.reverse := by
  induction vs generalizing ds with
  | nil => cases h; exact .nil
  | cons v vs ih =>
    cases h with
    | cons a b =>
      rw [List.reverse_cons, List.reverse_cons]
      exact (ih b).append (.cons a .nil)
def mRev (j : Int) (m : Mm) : Mm := fun es B E ρ => isLs (L2.atI es j) = true ∧ m es B E ρ
def mClr (j : Int) (m : Mm) : Mm := fun es B E ρ => isLs (L2.atI es j) = true ∧ m es B E ρ
structure KS (W : Wd) (Ho Hr H Hs Hb : Hp) (σ : St) (ρ : Env) (i : Nat) (es : List PyData) (p : Addr) (vs : List V) : Prop where
  s : SR0 W Ho Hr H Hs σ (ρ.set i (some (.dat (.tuple es))))
  er : ER W Hb σ (ρ.set i none)
  own : OR W Ho Hb σ (ρ.set i none)
  sm : Same Hb Hs
  at' : σ[i]? = some (some (.ref p))
  tup : SqT W.K Hs p vs
  new : NewAll W.K Hb Hs vs es
abbrev Km := List PyData → Sm
def RKM (W : Wd) (i : Nat) (t : TS) (k : Km) : Prop := ∀ D σ H Hs Hb Ho Hr ρ es p vs E, KS W Ho Hr H Hs Hb σ ρ i es p vs → k es E ρ → Ct W Hr Hb D E → t D σ H
def kIf (i : Nat) (fc : Env → Pp Bool) (f : Sm) (k : Km) : Km := fun es E ρ => fc (frzAll (ρ.set i (some (.dat (.tuple es))))) fun b => if b = true then f { E with nx := fun _ => False } (ρ.set i (some (.dat (.tuple es)))) else k es E ρ
def kMut (i : Nat) (m : Mm) : Km := fun es E ρ => ∃ B, es.all (szOk B) = true ∧ m es B E (ρ.set i none)
def sTow (i : Nat) (fn : Env → Pp (List PyData)) (k : Km) : Sm := fun E ρ => i < ρ.length ∧ fn ρ fun es => k es E ρ
end
def XKM (κ : Kx) (i : Nat) (ss : List Stmt) (k : Km) : Prop := ∃ t, (∀ X, Cn κ X → PSs X ss t) ∧ ∀ d Pt, κ.fam d Pt → RKM (κ.W d Pt) i t k
def XMM (κ : Kx) (i : Nat) (ss : List Stmt) (m : Mm) : Prop := ∃ t, (∀ X, Cn κ X → PSs X ss t) ∧ ∀ d Pt, κ.fam d Pt → RMM (κ.W d Pt) i t m
def mEnd (f : Sm) : Mm := fun _ _ => f
section
variable {κ : Kx} {a c e : Expr} {i : Nat} {ss rest : List Stmt} {f : Sm} {fe : Env → Pp PyData} {fn : Env → Pp (List PyData)} {f1 : Env → Pp Bool} {k : Km} {m : Mm} {pos p : Pos}
end
section
variable {fa fe : Env → Pp PyData} {fs ff fn : Env → Pp (List PyData)} {f1 : Env → Pp Bool} {ρ : Env} {E : En} {f : Sm} {k : Km} {m : Mm} {es : List PyData} {B i : Nat} {j : Int}
@[simp] theorem s_nSeq {g : Env → Pp (List PyData)} {Q : List PyData → Prop} : nSeq f g ρ Q = f ⟨fun ρ' => g ρ' Q, fun _ => False, fun _ => False, fun _ => False, fun _ => False⟩ ρ := rfl
@[simp] theorem s_nRet {Q : List PyData → Prop} : nRet ff ρ Q = ff (frzAll ρ) Q := rfl
@[simp] theorem s_nTup {Q : List PyData → Prop} : nTup fs ρ Q = fs ρ fun ds => (ds.all noPot = true ∧ ds.length ≤ sizeLine) ∧ Q ds := rfl
@[simp] theorem s_anE {Q : List PyData → Prop} : anE fa fs ρ Q = fa ρ fun a => noList a = true ∧ fs ρ fun as => Q (a :: as) := rfl
@[simp] theorem s_anF {Q : List PyData → Prop} : anF ff fs ρ Q = ff ρ fun es => noLs es = true ∧ fs ρ fun as => Q (.list es :: as) := rfl
@[simp] theorem s_eTN {Q : PyData → Prop} : eTN ff ρ Q = ff ρ fun ds => Q (.tuple ds) := rfl
@[simp] theorem s_sTow : sTow i fn k E ρ = (i < ρ.length ∧ fn ρ fun es => k es E ρ) := rfl
@[simp] theorem s_kIf : kIf i f1 f k es E ρ = f1 (frzAll (ρ.set i (some (.dat (.tuple es))))) fun b => if b = true then f { E with nx := fun _ => False } (ρ.set i (some (.dat (.tuple es)))) else k es E ρ := rfl
@[simp] theorem s_mApp : mApp j fe m es B E ρ = ((isLs (L2.atI es j) = true ∧ B < sizeLine) ∧ fe ρ fun d => noPot d = true ∧ m es (B + 1) E ρ) := rfl
@[simp] theorem s_mRev : mRev j m es B E ρ = (isLs (L2.atI es j) = true ∧ m es B E ρ) := rfl
@[simp] theorem s_mClr : mClr j m es B E ρ = (isLs (L2.atI es j) = true ∧ m es B E ρ) := rfl
@[simp] theorem s_mEnd : mEnd f es B E ρ = f E ρ := rfl
@[simp] theorem s_isLs {xs : List PyData} : isLs (some (.list xs)) = true := rfl
@[simp] theorem s_fnPN {n : Nat} {fb : Env → Pp (List PyData)} {ds : List PyData} {Q : List PyData → Prop} : fnPN n fb ds Q = fb (env0 n ds) Q := rfl
end
end DL
set_option Elab.async false
set_option linter.all false
set_option maxRecDepth 100000
set_option maxHeartbeats 400000
namespace L2
open PySem PySem.Spec PyProof.Rows
def rgV (lo : Int) (n : Nat) : List V := (List.range n).map fun (k : Nat) => V.int (lo + (k : Int))
def tLR1 (ta : TA) : TE := fun σ H Q => ta σ H fun vs H1 => ∃ j : Nat, vs = [.int (j : Int)] ∧ j ≤ 1000 ∧ ∀ p, H1 p = none → Q (.ref p) (upd H1 p (.lst (rgV 0 j)))
def tLR2 (ta : TA) : TE := fun σ H Q => ta σ H fun vs H1 => ∃ (lo : Int) (n : Nat), vs = [.int lo, .int (lo + (n : Int))] ∧ n ≤ 1000 ∧ -1000 ≤ lo ∧ lo ≤ 1000 ∧ ∀ p, H1 p = none → Q (.ref p) (upd H1 p (.lst (rgV lo n)))
def tTR2 (ta : TA) : TE := fun σ H Q => ta σ H fun vs H1 => ∃ (lo : Int) (n : Nat), vs = [.int lo, .int (lo + (n : Int))] ∧ n ≤ 1000 ∧ -1000 ≤ lo ∧ lo ≤ 1000 ∧ ∀ p, H1 p = none → Q (.ref p) (upd H1 p (.tup (rgV lo n)))
section
variable {X : Cx}
end
end L2
set_option Elab.async false
set_option linter.all false
set_option maxRecDepth 100000
set_option maxHeartbeats 400000
namespace DL
open PySem L2
def fLR1 (fs : Env → Pp (List PyData)) : Env → Pp (List PyData) := fun ρ => bnd (fs ρ) fun ds => match ds with
  | [.int j] => fun Q => (0 ≤ j ∧ j ≤ 1000) ∧ Q (rangeD 0 j.toNat)
  | _ => fail
def fLR2 (fs : Env → Pp (List PyData)) : Env → Pp (List PyData) := fun ρ => bnd (fs ρ) fun ds => match ds with
  | [.int lo, .int hi] => fun Q => (lo ≤ hi ∧ hi ≤ lo + 1000 ∧ -1000 ≤ lo ∧ lo ≤ 1000) ∧ Q (rangeD lo (hi - lo).toNat)
  | _ => fail
def eTR2 (fs : Env → Pp (List PyData)) : Env → Pp PyData := fun ρ => bnd (fs ρ) fun ds => match ds with
  | [.int lo, .int hi] => fun Q => (lo ≤ hi ∧ hi ≤ lo + 1000 ∧ -1000 ≤ lo ∧ lo ≤ 1000) ∧ Q (.tuple (rangeD lo (hi - lo).toNat))
  | _ => fail
section
variable {W : Wd} {fs : Env → Pp (List PyData)}
def sAppPop (k i : Nat) (fi : Env → Pp PyData) : Sm := fun E ρ => ∃ ys, ρ[k]? = some (some (.own ys)) ∧ ∃ ds, ρ[i]? = some (some (.own ds)) ∧ (i ≠ k ∧ ys.length < sizeLine) ∧ fi (frzAll ρ) fun z => optK (plc ds z) fun j => optK ds[j]? fun d => E.nx ((ρ.set i (some (.own (ds.eraseIdx j)))).set k (some (.own (ys ++ [d]))))
def sCallPop (g : List PyData → Pp PyData) (fa : Env → Pp PyData) (i : Nat) (fi : Env → Pp PyData) (jy : Nat) : Sm := fun E ρ => ∃ ds, ρ[i]? = some (some (.own ds)) ∧ fa ρ fun a => noPot a = true ∧ fi (frzAll ρ) fun z => optK (plc ds z) fun j => optK ds[j]? fun d => g [a, d] fun r => E.nx ((ρ.set i (some (.own (ds.eraseIdx j)))).set jy (some (.dat r)))
end
section
variable {κ : Kx} {a b e f : Expr} {fa fi fe : Env → Pp PyData} {fs : Env → Pp (List PyData)} {pos p p1 p2 : Pos}
end
section
variable {fa fi fe : Env → Pp PyData} {fs : Env → Pp (List PyData)} {ρ : Env} {E : En}
def lr1K (ds : List PyData) (Q : List PyData → Prop) : Prop := match ds with | [.int j] => (0 ≤ j ∧ j ≤ 1000) ∧ Q (rangeD 0 j.toNat) | _ => False
@[simp] theorem s_lr1K {j : Int} {Q : List PyData → Prop} : lr1K [.int j] Q = ((0 ≤ j ∧ j ≤ 1000) ∧ Q (rangeD 0 j.toNat)) := rfl
@[simp] theorem s_fLR1 {Q : List PyData → Prop} : fLR1 fs ρ Q = fs ρ fun ds => lr1K ds Q := by
  show (fs ρ fun ds => (match ds with | [.int j] => fun Q => (0 ≤ j ∧ j ≤ 1000) ∧ Q (rangeD 0 j.toNat) | _ => fail : Pp (List PyData)) Q) = _
  refine congrArg (fs ρ) (funext fun ds => ?_)
  unfold lr1K
  split <;> rfl
def lr2K (ds : List PyData) (Q : List PyData → Prop) : Prop := match ds with | [.int lo, .int hi] => (lo ≤ hi ∧ hi ≤ lo + 1000 ∧ -1000 ≤ lo ∧ lo ≤ 1000) ∧ Q (rangeD lo (hi - lo).toNat) | _ => False
@[simp] theorem s_lr2K {lo hi : Int} {Q : List PyData → Prop} : lr2K [.int lo, .int hi] Q = ((lo ≤ hi ∧ hi ≤ lo + 1000 ∧ -1000 ≤ lo ∧ lo ≤ 1000) ∧ Q (rangeD lo (hi - lo).toNat)) := rfl
@[simp] theorem s_fLR2 {Q : List PyData → Prop} : fLR2 fs ρ Q = fs ρ fun ds => lr2K ds Q := by
  show (fs ρ fun ds => (match ds with | [.int lo, .int hi] => fun Q => (lo ≤ hi ∧ hi ≤ lo + 1000 ∧ -1000 ≤ lo ∧ lo ≤ 1000) ∧ Q (rangeD lo (hi - lo).toNat) | _ => fail : Pp (List PyData)) Q) = _
  refine congrArg (fs ρ) (funext fun ds => ?_)
  unfold lr2K
  split <;> rfl
@[simp] theorem s_eTR2 {Q : PyData → Prop} : eTR2 fs ρ Q = fs ρ fun ds => lr2K ds fun es => Q (.tuple es) := by
  show (fs ρ fun ds => (match ds with | [.int lo, .int hi] => fun Q => (lo ≤ hi ∧ hi ≤ lo + 1000 ∧ -1000 ≤ lo ∧ lo ≤ 1000) ∧ Q (.tuple (rangeD lo (hi - lo).toNat)) | _ => fail : Pp PyData) Q) = _
  refine congrArg (fs ρ) (funext fun ds => ?_)
  unfold lr2K
  split <;> rfl
end
end DL
set_option Elab.async false
set_option linter.all false
set_option maxRecDepth 100000
set_option maxHeartbeats 1000000
namespace L2
open PySem PySem.Spec PyProof.Rows PyProof.Rows.G
def lexI : List Int → List Int → Bool
  | [], b => decide (0 < b.length)
  | _ :: _, [] => false
  | x :: a, y :: b => if x = y then lexI a b else decide (x < y)
def sh0 : Nat → Bool := fun _ => false
theorem vals_refs : ∀ {as : List Addr} {us : List Value}, Vals (as.map V.ref) us → us = as.map Value.ref
  | [], [], _ => rfl
  | [], _ :: _, h => by cases h
  | _ :: _, [], h => by cases h
  | a :: as, u :: us, h => by
    cases h with
    | cons h1 h2 =>
      rw [vals_refs h2]
      cases h1
      rfl
def rSortT (K : PySem.W.Frag) : List V → Hp → VK → Prop := fun vs H Q => ∃ (a : Addr) (as : List Addr) (f : Addr → List Int), vs = [V.ref a] ∧ SqL K H a (as.map V.ref) ∧ (∀ x ∈ as, SqT K H x ((f x).map V.int)) ∧ (2 ≤ as.length → ∀ x ∈ as, f x ≠ []) ∧ as.length ≤ 1000 ∧
  ∀ (as' : List Addr) (p : Addr), as'.Perm as → as'.Pairwise (fun x y => lexI (f y) (f x) = false) → H p = none → Q (.ref p) (upd H p (.lst (as'.map V.ref)))
section
variable {X : Cx}
def refOf (p : Value × Value) : Addr := match p.1 with | .ref x => x | _ => 0
def intsU : List Value → List Int
  | [] => []
  | .int n _ :: r => n :: intsU r
  | _ :: r => intsU r
def heapInts (h : Heap) (a : Addr) : List Int := match h.get? a with
  | some o => match o.data with
    | .seq us _ => intsU us.toList
    | _ => []
  | none => []
def rSortP (K : PySem.W.Frag) : List V → Hp → VK → Prop := fun vs H Q => ∃ (a : Addr) (ps : List (Addr × List Int)), vs = [V.ref a] ∧ SqL K H a (ps.map fun x => V.ref x.1) ∧ (∀ x ∈ ps, SqT K H x.1 (x.2.map V.int)) ∧ (2 ≤ ps.length → ∀ x ∈ ps, x.2 ≠ []) ∧ ps.length ≤ 1000 ∧
  ∀ (ps' : List (Addr × List Int)) (p : Addr), ps'.Perm ps → ps'.Pairwise (fun x y => lexI y.2 x.2 = false) → H p = none → Q (.ref p) (upd H p (.lst (ps'.map fun x => V.ref x.1)))
end
end L2
set_option Elab.async false
set_option linter.all false
set_option maxRecDepth 100000
set_option maxHeartbeats 400000
namespace DL
open PySem L2
def tupI (l : List Int) : PyData := .tuple (l.map PyData.int)
def fSortT (fs : Env → Pp (List PyData)) : Env → Pp (List PyData) := fun ρ => bnd (fs ρ) fun ds => fun Q => ∃ ls : List (List Int), ds = [.list (ls.map tupI)] ∧ (2 ≤ ls.length → ∀ l ∈ ls, l ≠ []) ∧ ls.length ≤ 1000 ∧
  ∀ ls' : List (List Int), ls'.Perm ls → ls'.Pairwise (fun a b => lexI b a = false) → Q (ls'.map tupI)
section
variable {W : Wd} {fs : Env → Pp (List PyData)}
end
section
variable {κ : Kx} {a b e f : Expr} {fs : Env → Pp (List PyData)} {pos p p1 p2 : Pos}
end
section
variable {fs : Env → Pp (List PyData)} {ρ : Env}
def sortTK (ds : List PyData) (Q : List PyData → Prop) : Prop := ∃ ls : List (List Int), ds = [.list (ls.map tupI)] ∧ (2 ≤ ls.length → ∀ l ∈ ls, l ≠ []) ∧ ls.length ≤ 1000 ∧
  ∀ ls' : List (List Int), ls'.Perm ls → ls'.Pairwise (fun a b => lexI b a = false) → Q (ls'.map tupI)
@[simp] theorem s_fSortT {Q : List PyData → Prop} : fSortT fs ρ Q = fs ρ fun ds => sortTK ds Q := rfl
end
end DL
set_option Elab.async false
set_option linter.all false
set_option maxRecDepth 100000
set_option maxHeartbeats 400000
namespace L2
open PySem PySem.Spec PyProof.Rows
def itemsOfD : PyData → Option (List PyData)
  | .list ds => some ds
  | .tuple ds => some ds
  | _ => none
def rInD (K : PySem.W.Frag) (neg : Bool) : R2 := fun x y H Q => ∃ d e ds, Dp K H x d ∧ Dp K H y e ∧ SeqAt.shaped d = true ∧ SeqAt.shaped e = true ∧ itemsOfD e = some ds ∧ Q (.bl (if neg then !(ds.any fun z => PyData.eqv z d) else ds.any fun z => PyData.eqv z d)) H
section
variable {X : Cx}
end
end L2
namespace DL
open PySem L2
def dInD (neg : Bool) (a b : PyData) : Option PyData := if SeqAt.shaped a = true ∧ SeqAt.shaped b = true then match itemsOfD b with
  | some ds => some (.bool (if neg then !(ds.any fun z => PyData.eqv z a) else ds.any fun z => PyData.eqv z a))
  | none => none else none
section
variable {W : Wd}
end
section
variable {κ : Kx} {a b e d : Expr} {fa fb : Env → Pp PyData} {pos : Pos}
end
end DL
set_option Elab.async false
set_option linter.all false
set_option maxRecDepth 100000
set_option maxHeartbeats 400000
namespace L2
open PySem PySem.Spec PyProof.Rows
def iZipN (K : PySem.W.Frag) (ta : TA) : TI := fun σ H R => ta σ H fun vs H1 => ∃ a b xs ys, vs = [.ref a, .ref b] ∧ ((SqT K H1 a xs ∧ SqL K H1 b ys ∧ R (Itzm K a b) H1) ∨ (SqT K H1 a xs ∧ SqT K H1 b ys ∧ R (Itzt K a b) H1))
end L2
namespace DL
open PySem L2
def iZn (fs : Env → Pp (List PyData)) : Env → Pp (List PyData) := fun ρ => bnd (fs ρ) fun ds => match ds with
  | [.tuple xs, .list ys] => fun Q => xs.length = ys.length ∧ Q (zipD xs ys)
  | [.tuple xs, .tuple ys] => fun Q => xs.length = ys.length ∧ Q (zipD xs ys)
  | _ => fail
section
variable {κ : Kx} {a b : Expr} {fs : Env → Pp (List PyData)} {p p1 pos : Pos}
end
section
variable {fs : Env → Pp (List PyData)} {ρ : Env}
def znK (ds : List PyData) (Q : List PyData → Prop) : Prop := match ds with
  | [.tuple xs, .list ys] => xs.length = ys.length ∧ Q (zipD xs ys)
  | [.tuple xs, .tuple ys] => xs.length = ys.length ∧ Q (zipD xs ys)
  | _ => False
@[simp] theorem s_znL {xs ys : List PyData} {Q : List PyData → Prop} : znK [.tuple xs, .list ys] Q = (xs.length = ys.length ∧ Q (zipD xs ys)) := rfl
@[simp] theorem s_znT {xs ys : List PyData} {Q : List PyData → Prop} : znK [.tuple xs, .tuple ys] Q = (xs.length = ys.length ∧ Q (zipD xs ys)) := rfl
@[simp] theorem s_iZn {Q : List PyData → Prop} : iZn fs ρ Q = fs ρ fun ds => znK ds Q := by
  show (fs ρ fun ds => (match ds with | [.tuple xs, .list ys] => fun Q => xs.length = ys.length ∧ Q (zipD xs ys) | [.tuple xs, .tuple ys] => fun Q => xs.length = ys.length ∧ Q (zipD xs ys) | _ => fail : Pp (List PyData)) Q) = _
  refine congrArg (fs ρ) (funext fun ds => ?_)
  unfold znK
  split <;> rfl
end
end DL
set_option Elab.async false
set_option linter.all false
set_option maxRecDepth 100000
set_option maxHeartbeats 400000
namespace DL
open PySem L2
section
variable {W : Wd} {fs : Env → Pp (List PyData)}
def sCallPopT (g : List PyData → Pp PyData) (fa : Env → Pp PyData) (i : Nat) (fi : Env → Pp PyData) (jy : Nat) : Sm := fun E ρ => ∃ ds, ρ[i]? = some (some (.own ds)) ∧ fa ρ fun a => noPot a = true ∧ fi (frzAll ρ) fun z => optK (plc ds z) fun j => optK ds[j]? fun d => g [a, .tuple [d]] fun r => E.nx ((ρ.set i (some (.own (ds.eraseIdx j)))).set jy (some (.dat r)))
end
section
variable {κ : Kx} {a b e f : Expr} {fa fi fe : Env → Pp PyData} {fs : Env → Pp (List PyData)} {pos p p1 p2 : Pos}
end
end DL
set_option Elab.async false
set_option linter.all false
set_option maxRecDepth 100000
set_option maxHeartbeats 400000
namespace L2
open PySem PySem.Spec PyProof.Rows
section
variable {prog : Program} {w : World} {A : Around} {E : Value → Shared → Prop} {s : Shared}
abbrev tq1 (h : Heap) (a : Addr) : Heap := h.push { cls := .type "list_iterator", data := .fields #[.ref a, .int 0 0] }
abbrev tq2 (h : Heap) (a b : Addr) : Heap := (tq1 h a).push { cls := .type "tuple_iterator", data := .fields #[.ref b, .int 0 0] }
abbrev tq3 (h : Heap) (a b : Addr) : Heap := (tq2 h a b).push { cls := .type "tuple", data := .seq #[.ref h.objs.size, .ref (tq1 h a).objs.size] }
abbrev tq4 (h : Heap) (a b : Addr) : Heap := (tq3 h a b).push { cls := .type "tuple", data := .seq #[.none, .none] }
abbrev tq5 (h : Heap) (a b : Addr) : Heap := (tq4 h a b).push { cls := .type "zip", data := .fields #[.none, .bool false, .bool false, .ref (tq2 h a b).objs.size, .ref (tq3 h a b).objs.size] }
end
def Itzq (K : PySem.W.Frag) (a b : Addr) : It :=
  ⟨fun i H => ∃ (xs ys : List V) (x y : V), SqL K H a xs ∧ SqT K H b ys ∧ xs[i]? = some x ∧ ys[i]? = some y,
    fun i H v H' => ∃ T x y, v = .ref T ∧ H T = none ∧ H' = upd H T (.tup [x, y]) ∧ (∀ xs, SqL K H a xs → xs[i]? = some x) ∧ ∀ ys, SqT K H b ys → ys[i]? = some y, fun i H => ∃ xs : List V, SqL K H a xs ∧ xs.length ≤ i⟩
def iZipR (K : PySem.W.Frag) (ta : TA) : TI := fun σ H R => ta σ H fun vs H1 => ∃ a b xs ys, vs = [.ref a, .ref b] ∧ ((SqL K H1 a xs ∧ SqL K H1 b ys ∧ R (Itz K a b) H1) ∨ (SqL K H1 a xs ∧ SqT K H1 b ys ∧ R (Itzq K a b) H1))
end L2
set_option Elab.async false
set_option linter.all false
set_option maxRecDepth 100000
set_option maxHeartbeats 400000
namespace DL
open PySem L2
def iZr (fs : Env → Pp (List PyData)) : Env → Pp (List PyData) := fun ρ => bnd (fs ρ) fun ds => match ds with
  | [.list xs, .list ys] => fun Q => xs.length = ys.length ∧ Q (zipD xs ys)
  | [.list xs, .tuple ys] => fun Q => xs.length = ys.length ∧ Q (zipD xs ys)
  | _ => fail
section
variable {κ : Kx} {a b : Expr} {fs : Env → Pp (List PyData)} {p p1 pos : Pos}
end
section
variable {fs : Env → Pp (List PyData)} {ρ : Env}
def zrK (ds : List PyData) (Q : List PyData → Prop) : Prop := match ds with
  | [.list xs, .list ys] => xs.length = ys.length ∧ Q (zipD xs ys)
  | [.list xs, .tuple ys] => xs.length = ys.length ∧ Q (zipD xs ys)
  | _ => False
@[simp] theorem s_zrL {xs ys : List PyData} {Q : List PyData → Prop} : zrK [.list xs, .list ys] Q = (xs.length = ys.length ∧ Q (zipD xs ys)) := rfl
@[simp] theorem s_zrT {xs ys : List PyData} {Q : List PyData → Prop} : zrK [.list xs, .tuple ys] Q = (xs.length = ys.length ∧ Q (zipD xs ys)) := rfl
@[simp] theorem s_iZr {Q : List PyData → Prop} : iZr fs ρ Q = fs ρ fun ds => zrK ds Q := by
  show (fs ρ fun ds => (match ds with | [.list xs, .list ys] => fun Q => xs.length = ys.length ∧ Q (zipD xs ys) | [.list xs, .tuple ys] => fun Q => xs.length = ys.length ∧ Q (zipD xs ys) | _ => fail : Pp (List PyData)) Q) = _
  refine congrArg (fs ρ) (funext fun ds => ?_)
  unfold zrK
  split <;> rfl
end
end DL
set_option Elab.async false
set_option linter.all false
set_option maxRecDepth 100000
set_option maxHeartbeats 400000
namespace DL
open PySem L2
abbrev Tm := (Env → Prop) → Env → Prop
def TK (W : Wd) (Hb Hs : Hp) (T : List Nat) (σ : St) (ρ : Env) : Prop := ∀ j ∈ T, ∃ q xs es, σ[j]? = some (some (.ref q)) ∧ ρ[j]? = some (some (.dat (.list es))) ∧ Hs q = some (.lst xs) ∧ Hb q = none ∧ noLs es = true ∧ xs.length ≤ sizeLine ∧ DvAll W.K Hs xs es
section
variable {W : Wd} {Hb Hs Hs' : Hp} {T : List Nat} {σ : St} {ρ : Env}
theorem TK.mono (s : Same Hs Hs') (h : TK W Hb Hs T σ ρ) : TK W Hb Hs' T σ ρ := fun j hj =>
  let ⟨q, xs, es, a, b, c, d, e, z, v⟩ := h j hj; ⟨q, xs, es, a, b, s _ _ c, d, e, z, v.mono s⟩
theorem TK.sets {Hb Hs : Hp} {T : List Nat} : ∀ {is : List Nat} {σ σ' : St} {ρ ρ' : Env}, Sets W Hs is σ σ' ρ ρ' → (∀ j ∈ T, j ∉ is) → TK W Hb Hs T σ ρ → TK W Hb Hs T σ' ρ'
  | _, _, _, _, _, .nil, _, h => h
  | i :: is, _, _, _, _, .cons c st, hn, h => TK.sets st (fun j hj hm => hn j hj (List.mem_cons_of_mem _ hm)) fun j hj => by
    obtain ⟨q, xs, es, a, b, r⟩ := h j hj
    have hij : i ≠ j := fun e => hn j hj (e ▸ List.mem_cons_self)
    exact ⟨q, xs, es, by rw [List.getElem?_set_ne hij]; exact a, by rw [List.getElem?_set_ne hij]; exact b, r⟩
def RTK (W : Wd) (T : List Nat) (t : TS) (f : Tm) : Prop := ∀ D σ H Hs Hb Ho Hr ρ (P : Env → Prop), SR0 W Ho Hr H Hs σ ρ → TK W Hb Hs T σ ρ → Same Hb Hs → f P ρ →
  (∀ σ' ρ' H' Hs', P ρ' → SR0 W Ho Hr H' Hs' σ' ρ' → Same Hs Hs' → TK W Hb Hs' T σ' ρ' → D.nx σ' H') → t D σ H
def kNx : Tm := fun P ρ => P ρ
def kSq (f g : Tm) : Tm := fun P ρ => f (g P) ρ
def kNv (fc : Env → Pp Bool) : Tm := fun P ρ => fc ρ fun b => b = false ∧ P ρ
def kAg (i : Nat) (fe : Env → Pp PyData) : Tm := fun P ρ => ∃ k, datAt ρ i = some (.int k) ∧ fe ρ fun d => ∃ j, d = .int j ∧ P (ρ.set i (some (.dat (.int (k + j)))))
def kUn (a b c : Nat) (fn : Env → Pp (List PyData)) : Tm := fun P ρ => fn ρ fun es => ∃ d x y, es = [d, .list x, .list y] ∧ (b < ρ.length ∧ c < ρ.length) ∧ P (((ρ.set a (some (.dat d))).set b (some (.dat (.list x)))).set c (some (.dat (.list y))))
def forT (fg : PyData → Env → Pp Env) (fb : Tm) (P : Env → Prop) : List PyData → Env → Prop
  | [], ρ => P ρ
  | d :: r, ρ => fg d ρ fun ρ' => fb (forT fg fb P r) ρ'
def kFor (it : Env → Pp (List PyData)) (fg : PyData → Env → Pp Env) (fb : Tm) : Tm := fun P ρ => it ρ fun ds => forT fg fb P ds ρ
def nTk (a b c : Nat) (fs : Env → Pp (List PyData)) (f : Tm) : Env → Pp (List PyData) := fun ρ Q => fs ρ fun ds => ∃ x y z, ds = [x, .list y, .list z] ∧ (b < ρ.length ∧ c < ρ.length) ∧ f (fun ρ' => ∃ d l m, datAt ρ' a = some d ∧ noList d = true ∧ ρ'[b]? = some (some (.dat (.list l))) ∧ ρ'[c]? = some (some (.dat (.list m))) ∧ Q [d, .list l, .list m]) (((ρ.set a (some (.dat x))).set b (some (.dat (.list y)))).set c (some (.dat (.list z))))
end
end DL
set_option Elab.async false
set_option linter.all false
set_option maxRecDepth 100000
set_option maxHeartbeats 400000
namespace DL
open PySem L2
def XTK (κ : Kx) (T : List Nat) (ss : List Stmt) (f : Tm) : Prop := ∃ t, (∀ X, Cn κ X → PSs X ss t) ∧ ∀ d Pt, κ.fam d Pt → RTK (κ.W d Pt) T t f
def XTK1 (κ : Kx) (T : List Nat) (st : Stmt) (f : Tm) : Prop := ∃ t, (∀ X, Cn κ X → PS X st t) ∧ ∀ d Pt, κ.fam d Pt → RTK (κ.W d Pt) T t f
section
variable {κ : Kx} {T : List Nat} {a b c e tg : Expr} {es : List Expr} {st : Stmt} {rest ss : List Stmt} {f g : Tm} {fa fe : Env → Pp PyData} {fs fn : Env → Pp (List PyData)} {pos p px py pz pt pt2 tpos : Pos} {is : List Nat} {fg : PyData → Env → Pp Env}
end
section
variable {f g : Tm} {P : Env → Prop} {ρ : Env} {fe : Env → Pp PyData} {fc : Env → Pp Bool} {fs fn it : Env → Pp (List PyData)} {fg : PyData → Env → Pp Env}
@[simp] theorem s_kNx : kNx P ρ = P ρ := rfl
@[simp] theorem s_kSq : kSq f g P ρ = f (g P) ρ := rfl
@[simp] theorem s_kNv : kNv fc P ρ = fc ρ fun b => b = false ∧ P ρ := rfl
@[simp] theorem s_kFor : kFor it fg f P ρ = it ρ fun ds => forT fg f P ds ρ := rfl
end
end DL
set_option Elab.async false
set_option linter.all false
set_option maxRecDepth 100000
set_option maxHeartbeats 400000
namespace DL
open PySem L2
inductive KAl (K : PySem.W.Frag) (H : Hp) : List (Key × V) → List (Key × PyData) → Prop
  | nil : KAl K H [] []
  | cons {k : Key} {v : V} {kvs : List (Key × V)} {d : PyData} {es : List (Key × PyData)} : Dv K H v d → KAl K H kvs es → KAl K H ((k, v) :: kvs) ((k, d) :: es)
def kE (e : Key × PyData) : PyData × PyData := (kD e.1, e.2)
def putE (es : List (Key × PyData)) (k : Key) (d : PyData) : List (Key × PyData) :=
  if (es.any fun e => decide (e.1 = k)) = true then es.map (fun e => if e.1 = k then (e.1, d) else e) else es ++ [(k, d)]
section
variable {K : PySem.W.Frag} {H H' : Hp}
theorem KAl.mono (s : Same H H') : ∀ {kvs : List (Key × V)} {es : List (Key × PyData)}, KAl K H kvs es → KAl K H' kvs es
  | _, _, .nil => .nil
  | _, _, .cons a b => .cons (Dv.mono s _ a) (KAl.mono s b)
theorem KAl.length : ∀ {kvs : List (Key × V)} {es : List (Key × PyData)}, KAl K H kvs es → kvs.length = es.length
  | _, _, .nil => rfl
  | _, _, .cons _ b => congrArg (· + 1) (KAl.length b)
theorem KAl.all : ∀ {kvs : List (Key × V)} {es : List (Key × PyData)}, KAl K H kvs es → KAll K H kvs (es.map kE)
  | _, _, .nil => .nil
  | _, _, .cons a b => .cons a (KAl.all b)
theorem KAl.any {k : Key} : ∀ {kvs : List (Key × V)} {es : List (Key × PyData)}, KAl K H kvs es → (kvs.any fun e => decide (e.1 = k)) = (es.any fun e => decide (e.1 = k))
  | _, _, .nil => rfl
  | _, _, .cons a b => by rw [List.any_cons, List.any_cons, KAl.any b]
theorem KAl.map {k : Key} {v : V} {d : PyData} (hd : Dv K H v d) : ∀ {kvs : List (Key × V)} {es : List (Key × PyData)}, KAl K H kvs es → KAl K H (kvs.map fun e => if e.1 = k then (e.1, v) else e) (es.map fun e => if e.1 = k then (e.1, d) else e)
  | _, _, .nil => .nil
  | _, _, .cons (k := k') a b => by
    rw [List.map_cons, List.map_cons]
    by_cases h : k' = k
    · rw [if_pos h, if_pos h]; exact .cons hd (KAl.map hd b)
    · rw [if_neg h, if_neg h]; exact .cons a (KAl.map hd b)
theorem KAl.snoc {k : Key} {v : V} {d : PyData} (hd : Dv K H v d) : ∀ {kvs : List (Key × V)} {es : List (Key × PyData)}, KAl K H kvs es → KAl K H (kvs ++ [(k, v)]) (es ++ [(k, d)])
  | _, _, .nil => .cons hd .nil
  | _, _, .cons a b => .cons a (KAl.snoc hd b)
theorem KAl.put {k : Key} {v : V} {d : PyData} {kvs : List (Key × V)} {es : List (Key × PyData)} (h : KAl K H kvs es) (hd : Dv K H v d) : KAl K H (putK kvs k v) (putE es k d) := by
  unfold putK putE
  rw [h.any]
  split
  · exact h.map hd
  · exact h.snoc hd
end
def tLk (t : TE) : TE := fun σ H Q => t σ H fun x H1 => ∃ d u, x = .ref d ∧ H1 d = some u ∧ Mut (some u) ∧ ∀ od, Q x (upd H1 d (.frz od u))
theorem upd_plsr {Ho Hr : Hp} {q : Addr} {x y : HO} (h : Ho q = none) : upd (plus Ho (upd Hr q x)) q y = plus Ho (upd Hr q y) := by
  funext a
  by_cases e : a = q
  · subst e; rw [upd_same, plus_r h, upd_same]
  · rw [upd_ne e]; unfold plus; rw [upd_ne e, upd_ne e]
theorem upd_plsr0 {Ho Hr : Hp} {q : Addr} {y : HO} (h : Ho q = none) : upd (plus Ho Hr) q y = plus Ho (upd Hr q y) := by
  funext a
  by_cases e : a = q
  · subst e; rw [upd_same, plus_r h, upd_same]
  · rw [upd_ne e]; unfold plus; rw [upd_ne e]
theorem J.takes {H Hs Hq Hr : Hp} {p : Addr} {u o : HO} (j : J H Hs Hq (upd Hr p u)) (h : Hr p = none) : J (upd H p o) (upd Hs p o) Hq Hr := fun a => by
  by_cases e : a = p
  · subst e
    rcases j a with ⟨_, _, h2⟩ | ⟨_, _, h2⟩ | ⟨_, h1, h2⟩
    · rw [upd_same] at h2; cases h2
    · rw [upd_same] at h2; cases h2
    · exact .inl ⟨by rw [upd_same, upd_same], h2, h⟩
  · have := j a
    rw [upd_ne e] at this
    rw [upd_ne e, upd_ne e]; exact this
section
variable {W : Wd}
theorem apart_q {Ho Hr : Hp} {q : Addr} {x : HO} (h : Apart Ho (upd Hr q x)) : Ho q = none := by
  rcases h q with h | h
  · exact h
  · rw [upd_same] at h; cases h
theorem apart_upd {Ho Hr : Hp} {q : Addr} {x y : HO} (h : Apart Ho (upd Hr q x)) : Apart Ho (upd Hr q y) := fun a => by
  by_cases e : a = q
  · subst e; exact .inl (apart_q h)
  · have := h a
    rw [upd_ne e] at this ⊢
    exact this
theorem sets_ne {Hs : Hp} {a : Nat} : ∀ {is : List Nat} {σ σ' : St} {ρ ρ' : Env}, Sets W Hs is σ σ' ρ ρ' → a ∉ is → σ'[a]? = σ[a]?
  | _, _, _, _, _, .nil, _ => rfl
  | _, _, _, _, _, .cons (i := i) c st, hn => by
    rw [sets_ne st fun h => hn (List.mem_cons_of_mem _ h)]
    exact List.getElem?_set_ne fun e : i = a => hn (by rw [e]; exact List.mem_cons_self)
abbrev Es := List (Key × PyData)
abbrev Tq := (Es → Env → Prop) → Es → Env → Prop
def QS (W : Wd) (a : Nat) (q : Addr) (Ho Hr H Hs : Hp) (σ : St) (ρ : Env) (es : Es) : Prop := ∃ kvs, SR0 W Ho (upd Hr q (.dK kvs)) H Hs σ ρ ∧ σ[a]? = some (some (.ref q)) ∧ KAl W.K Hs kvs es
def RQ (W : Wd) (a : Nat) (t : TS) (f : Tq) : Prop := ∀ D σ H Hs Ho Hr ρ q es (P : Es → Env → Prop), QS W a q Ho Hr H Hs σ ρ es → f P es ρ →
  (∀ σ' ρ' H' Hs' es', P es' ρ' → QS W a q Ho Hr H' Hs' σ' ρ' es' → Same Hs Hs' → D.nx σ' H') → t D σ H
def qNx : Tq := fun P es ρ => P es ρ
def qSq (f g : Tq) : Tq := fun P es ρ => f (g P) es ρ
def qAsg (fe : Env → Pp PyData) (fg : PyData → Env → Pp Env) : Tq := fun P es ρ => fe ρ fun d => fg d ρ fun ρ' => P es ρ'
def qPut (fk fv : Env → Pp PyData) : Tq := fun P es ρ => fv ρ fun d => noPot d = true ∧ fk ρ fun k => ∃ i, k = .int i ∧ es.length < sizeLine ∧ P (putE es (.inl i) d) ρ
def qIf (fc : Env → Pp Bool) (f g : Tq) : Tq := fun P es ρ => fc ρ fun b => if b = true then f P es ρ else g P es ρ
def whQ (fc : Env → Pp Bool) (fb : Tq) (P : Es → Env → Prop) : Nat → Es → Env → Prop
  | 0 => fun _ _ => False
  | n + 1 => fun es ρ => fc ρ fun b => if b = true then fb (whQ fc fb P n) es ρ else P es ρ
def qWh (fc : Env → Pp Bool) (fb : Tq) : Tq := fun P es ρ => ∃ n, whQ fc fb P n es ρ
def forQ (fg : PyData → Env → Pp Env) (fb : Tq) (P : Es → Env → Prop) : List PyData → Es → Env → Prop
  | [], es, ρ => P es ρ
  | d :: r, es, ρ => fg d ρ fun ρ' => fb (forQ fg fb P r) es ρ'
def qFor (it : Env → Pp (List PyData)) (fg : PyData → Env → Pp Env) (fb : Tq) : Tq := fun P es ρ => it ρ fun ds => forQ fg fb P ds es ρ
variable {a : Nat}
def dctD (es : Es) : PyData := .dict ((.none, .none) :: es.map kE)
def sDct (a : Nat) (f : Tq) : Sm := fun E ρ => a < ρ.length ∧ f (fun es _ => E.rt (dctD es)) [] (ρ.set a none)
theorem set_none_dat {ρ : Env} {i : Nat} {d : PyData} (h : datAt (ρ.set a none) i = some d) : i ≠ a ∧ datAt ρ i = some d := by
  unfold datAt at h ⊢
  by_cases e : a = i
  · subst e
    by_cases hl : a < ρ.length
    · rw [List.getElem?_set_self hl] at h; cases h
    · rw [List.getElem?_eq_none (by rw [List.length_set]; omega)] at h; cases h
  · rw [List.getElem?_set_ne e] at h; exact ⟨fun z => e z.symm, h⟩
theorem set_none_own {ρ : Env} {i : Nat} {ds : List PyData} (h : (ρ.set a none)[i]? = some (some (.own ds))) : a ≠ i ∧ ρ[i]? = some (some (.own ds)) := by
  by_cases e : a = i
  · subst e
    by_cases hl : a < ρ.length
    · rw [List.getElem?_set_self hl] at h; cases h
    · rw [List.getElem?_eq_none (by rw [List.length_set]; omega)] at h; cases h
  · rw [List.getElem?_set_ne e] at h; exact ⟨e, h⟩
end
end DL
set_option Elab.async false
set_option linter.all false
set_option maxRecDepth 100000
set_option maxHeartbeats 400000
namespace DL
open PySem L2
theorem KAll.length {K : PySem.W.Frag} {H : Hp} : ∀ {kvs : List (Key × V)} {es : List (PyData × PyData)}, KAll K H kvs es → kvs.length = es.length
  | _, _, .nil => rfl
  | _, _, .cons _ b => congrArg (· + 1) (KAll.length b)
theorem KAll.at {K : PySem.W.Frag} {H : Hp} {k : Key} {v : V} : ∀ {kvs : List (Key × V)} {es : List (PyData × PyData)} {i : Nat}, KAll K H kvs es → kvs[i]? = some (k, v) → (es.map (·.1))[i]? = some (kD k)
  | _, _, _, .nil, e => by cases e
  | _, _, 0, .cons _ b, e => by cases e; rfl
  | _, _, i + 1, .cons _ b, e => KAll.at (i := i) b e
def iKs (fa : Env → Pp PyData) : Env → Pp (List PyData) := fun ρ Q => fa ρ fun d => ∃ m es, d = .dict (m :: es) ∧ es.length ≤ sizeLine ∧ Q (es.map (·.1))
def noPt : PyData → Bool
  | .dict [] => false
  | _ => true
theorem CRel.ch {W W' : Wd} (e : W.K = W'.K) {H : Hp} {v : V} {d : PyData} (n : noPt d = true) (h : CRel W H v d) : CRel W' H v d := by
  obtain ⟨K, a, b⟩ := W
  obtain ⟨K', a', b'⟩ := W'
  cases e
  cases d with
  | dict es =>
    cases es with
    | nil => cases n
    | cons x es => exact h
  | _ => exact h
theorem CAll.ch {W W' : Wd} (e : W.K = W'.K) {H : Hp} : ∀ {vs : List V} {ds : List PyData}, ds.all noPt = true → CAll W H vs ds → CAll W' H vs ds
  | _, _, _, .nil => .nil
  | _, _, n, .cons a b => by
    rw [List.all_cons, Bool.and_eq_true] at n
    exact .cons (a.ch e n.1) (CAll.ch e n.2 b)
abbrev W0 (K : PySem.W.Frag) : Wd := ⟨K, 0, fun Hq => Hq = e0⟩
def spPD (K : PySem.W.Frag) (g : List PyData → Pp PyData) : Sp := fun vs H Q _ => ∃ Hs Hr ds Q0, J H Hs e0 Hr ∧ CAll (W0 K) Hs vs ds ∧ g ds Q0 ∧ ∀ d v H' Hs', Q0 d → J H' Hs' e0 Hr → Same Hs Hs' → noPt d = true → CRel (W0 K) Hs' v d → Q v H'
def gPD (g : List PyData → Pp PyData) : List PyData → Pp PyData := fun ds Q => ds.all noPt = true ∧ g ds Q
def fnPD (n : Nat) (fb : Sm) : List PyData → Pp PyData := fun ds Q => fnD n fb ds fun d => noPt d = true ∧ Q d
section
variable {P : Program} {w : World} {K : PySem.W.Frag} {mg : Str → Option Value} {base : Heap}
end
section
variable {κ : Kx} {a e ei c tg : Expr} {es : List Expr} {fa fe fk fv : Env → Pp PyData} {fs : Env → Pp (List PyData)} {pos p px pd pr rpos tpos : Pos} {i : Nat} {st : Stmt} {ss rest : List Stmt} {f g : Tq} {is : List Nat} {fg : PyData → Env → Pp Env}
def XQ (κ : Kx) (i : Nat) (ss : List Stmt) (f : Tq) : Prop := ∃ t, (∀ X, Cn κ X → PSs X ss t) ∧ ∀ d Pt, κ.fam d Pt → RQ (κ.W d Pt) i t f
def XQ1 (κ : Kx) (i : Nat) (st : Stmt) (f : Tq) : Prop := ∃ t, (∀ X, Cn κ X → PS X st t) ∧ ∀ d Pt, κ.fam d Pt → RQ (κ.W d Pt) i t f
end
section
variable {f g : Tq} {P : Es → Env → Prop} {ρ : Env} {es : Es} {fe fk fv fa : Env → Pp PyData} {fc : Env → Pp Bool} {it : Env → Pp (List PyData)} {fg : PyData → Env → Pp Env} {Q : List PyData → Prop} {E : En} {a : Nat} {G : List PyData → Pp PyData} {ds : List PyData} {R : PyData → Prop}
@[simp] theorem s_qNx : qNx P es ρ = P es ρ := rfl
@[simp] theorem s_qSq : qSq f g P es ρ = f (g P) es ρ := rfl
@[simp] theorem s_qAsg : qAsg fe fg P es ρ = fe ρ fun d => fg d ρ fun ρ' => P es ρ' := rfl
@[simp] theorem s_qPut : qPut fk fv P es ρ = fv ρ fun d => noPot d = true ∧ fk ρ fun k => ∃ i, k = .int i ∧ es.length < sizeLine ∧ P (putE es (.inl i) d) ρ := rfl
@[simp] theorem s_qIf : qIf fc f g P es ρ = fc ρ fun b => if b = true then f P es ρ else g P es ρ := rfl
@[simp] theorem s_qFor : qFor it fg f P es ρ = it ρ fun ds => forQ fg f P ds es ρ := rfl
@[simp] theorem s_sDct : sDct a f E ρ = (a < ρ.length ∧ f (fun es _ => E.rt (dctD es)) [] (ρ.set a none)) := rfl
@[simp] theorem s_iKs : iKs fa ρ Q = fa ρ fun d => ∃ m es, d = .dict (m :: es) ∧ es.length ≤ sizeLine ∧ Q (es.map (·.1)) := rfl
@[simp] theorem s_gPD : gPD G ds R = (ds.all noPt = true ∧ G ds R) := rfl
end
end DL
set_option Elab.async false
set_option linter.all false
set_option maxRecDepth 100000
set_option maxHeartbeats 400000
namespace DL
open PySem L2
structure EnW where
  nx : Env → Prop
  bk : Env → Prop
  ct : Env → Prop
  rn : List PyData → Prop
abbrev Sw := EnW → Env → Prop
structure CtW (W : Wd) (Hr Hs : Hp) (D : Ends) (E : EnW) : Prop where
  nx : ∀ σ ρ H' Hs', E.nx ρ → SR W Hr H' Hs' σ ρ → Same Hs Hs' → D.nx σ H'
  bk : ∀ σ ρ H' Hs', E.bk ρ → SR W Hr H' Hs' σ ρ → Same Hs Hs' → D.bk σ H'
  ct : ∀ σ ρ H' Hs', E.ct ρ → SR W Hr H' Hs' σ ρ → Same Hs Hs' → D.ct σ H'
  rn : ∀ es p ws H' Hs', E.rn es → G W Hr H' Hs' → Same Hs Hs' → SqT W.K Hs' p ws → ws.length ≤ sizeLine → DvAll W.K Hs' ws es → NewAll W.K Hs Hs' ws es → D.rt (.ref p) H'
section
variable {W : Wd}
theorem CtW.mono {Hr Hs Hs1 : Hp} {D : Ends} {E : EnW} (s : Same Hs Hs1) (c : CtW W Hr Hs D E) : CtW W Hr Hs1 D E :=
  ⟨fun σ ρ H' Hs' e r q => c.nx σ ρ H' Hs' e r (s.trans q), fun σ ρ H' Hs' e r q => c.bk σ ρ H' Hs' e r (s.trans q), fun σ ρ H' Hs' e r q => c.ct σ ρ H' Hs' e r (s.trans q), fun es p ws H' Hs' e g q a b d n => c.rn es p ws H' Hs' e g (s.trans q) a b d (n.down s)⟩
def RSW (W : Wd) (t : TS) (f : Sw) : Prop := ∀ D σ H Hs Hr ρ E, SR W Hr H Hs σ ρ → f E ρ → CtW W Hr Hs D E → t D σ H
def wS (f : Sm) : Sw := fun E ρ => f ⟨E.nx, fun _ => False, E.bk, E.ct, fun _ => False⟩ ρ
def wSeq (f g : Sw) : Sw := fun E ρ => f ⟨g E, E.bk, E.ct, E.rn⟩ ρ
def wIf (fc : Env → Pp Bool) (f g : Sw) : Sw := fun E ρ => fc (frzAll ρ) fun b => if b = true then f E ρ else g E ρ
def whW (fc : Env → Pp Bool) (fb : Sw) (E : EnW) : Nat → Env → Prop
  | 0, _ => False
  | n + 1, ρ => fc (frzAll ρ) fun b => if b = true then fb ⟨whW fc fb E n, E.nx, whW fc fb E n, E.rn⟩ ρ else E.nx ρ
def wWhile (fc : Env → Pp Bool) (fb : Sw) : Sw := fun E ρ => ∃ n, whW fc fb E n ρ
def OwnIn (W : Wd) (Hb Hs : Hp) (σ : St) (ρ : Env) : Prop := ∀ (i : Nat) (ds : List PyData), ρ[i]? = some (some (Cell.own ds)) → ∃ (p : Addr) (xs : List V), σ[i]? = some (some (V.ref p)) ∧ Hs p = some (.lst xs) ∧ Hb p = none ∧ xs.length ≤ sizeLine ∧ DvAll W.K Hs xs ds
theorem OwnIn.mono {Hb Hs Hs' : Hp} {σ : St} {ρ : Env} (s : Same Hs Hs') (h : OwnIn W Hb Hs σ ρ) : OwnIn W Hb Hs' σ ρ := fun i ds e => let ⟨p, xs, a, b, c, z, d⟩ := h i ds e; ⟨p, xs, a, s _ _ b, c, z, d.mono s⟩
def RAO (W : Wd) (t : TA) (f : Env → Pp (List PyData)) : Prop := ∀ σ H Hs Hb Hr ρ (Q : List V → Hp → Prop) (Q0 : List PyData → Prop), G W Hr H Hs → ER W Hs σ (frzAll ρ) → OwnIn W Hb Hs σ ρ → Same Hb Hs → f ρ Q0 →
  (∀ ds vs H' Hs', Q0 ds → G W Hr H' Hs' → Same Hs Hs' → CAll W Hs' vs ds → NewAll W.K Hb Hs' vs ds → Q vs H') → t σ H Q
def aoE (fa : Env → Pp PyData) (fs : Env → Pp (List PyData)) : Env → Pp (List PyData) := fun ρ Q => fa (frzAll ρ) fun a => noList a = true ∧ fs ρ fun as => Q (a :: as)
def aoO (i : Nat) (fs : Env → Pp (List PyData)) : Env → Pp (List PyData) := fun ρ Q => ∃ ds, ρ[i]? = some (some (Cell.own ds)) ∧ noLs ds = true ∧ fs ρ fun as => Q (.list ds :: as)
def wRet (fs : Env → Pp (List PyData)) : Sw := fun E ρ => fs ρ fun ds => (ds.all noPot = true ∧ ds.length ≤ sizeLine) ∧ E.rn ds
end
def XSW (κ : Kx) (st : Stmt) (f : Sw) : Prop := ∃ t, (∀ X, Cn κ X → PS X st t) ∧ ∀ d Pt, κ.fam d Pt → RSW (κ.W d Pt) t f
def XSsW (κ : Kx) (ss : List Stmt) (f : Sw) : Prop := ∃ t, (∀ X, Cn κ X → PSs X ss t) ∧ ∀ d Pt, κ.fam d Pt → RSW (κ.W d Pt) t f
def XAO (κ : Kx) (es : List Expr) (f : Env → Pp (List PyData)) : Prop := ∃ t, (∀ X, Cn κ X → PA X es t) ∧ ∀ d Pt, κ.fam d Pt → RAO (κ.W d Pt) t f
section
variable {κ : Kx} {a c e : Expr} {es : List Expr} {st : Stmt} {ss rest : List Stmt} {f g : Sw} {fa : Env → Pp PyData} {fs : Env → Pp (List PyData)} {f1 : Env → Pp Bool} {pos p : Pos}
end
section
variable {P : Program} {w : World} {K : PySem.W.Frag} {mg : Str → Option Value} {base : Heap}
def bW (f : Sw) : Env → Pp (List PyData) := fun ρ Q => f ⟨fun _ => False, fun _ => False, fun _ => False, Q⟩ ρ
end
section
variable {W : Wd}
def kAsg (i j : Nat) (fe : Env → Pp PyData) (k : Km) : Km := fun es E ρ => fe (frzAll (ρ.set i (some (.dat (.tuple es))))) fun d => noList d = true ∧ k es E (ρ.set j (some (.dat d)))
end
section
variable {κ : Kx} {a : Expr} {i : Nat} {rest : List Stmt} {fa : Env → Pp PyData} {k : Km} {pos : Pos}
end
section
variable {fa : Env → Pp PyData} {fs : Env → Pp (List PyData)} {f1 : Env → Pp Bool} {ρ : Env} {E : EnW} {f g : Sw} {k : Km} {es : List PyData} {i j : Nat}
@[simp] theorem s_wS {f : Sm} : wS f E ρ = f ⟨E.nx, fun _ => False, E.bk, E.ct, fun _ => False⟩ ρ := rfl
@[simp] theorem s_wSeq : wSeq f g E ρ = f ⟨g E, E.bk, E.ct, E.rn⟩ ρ := rfl
@[simp] theorem s_wIf : wIf f1 f g E ρ = f1 (frzAll ρ) fun b => if b = true then f E ρ else g E ρ := rfl
@[simp] theorem s_wWhile : wWhile f1 f E ρ = ∃ n, whW f1 f E n ρ := rfl
@[simp] theorem s_wRet : wRet fs E ρ = fs ρ fun ds => (ds.all noPot = true ∧ ds.length ≤ sizeLine) ∧ E.rn ds := rfl
@[simp] theorem s_aoE {Q : List PyData → Prop} : aoE fa fs ρ Q = fa (frzAll ρ) fun a => noList a = true ∧ fs ρ fun as => Q (a :: as) := rfl
@[simp] theorem s_aoO {Q : List PyData → Prop} : aoO i fs ρ Q = ∃ ds, ρ[i]? = some (some (Cell.own ds)) ∧ noLs ds = true ∧ fs ρ fun as => Q (.list ds :: as) := rfl
@[simp] theorem s_bW {Q : List PyData → Prop} : bW f ρ Q = f ⟨fun _ => False, fun _ => False, fun _ => False, Q⟩ ρ := rfl
@[simp] theorem s_kAsg {E : En} : kAsg i j fa k es E ρ = fa (frzAll (ρ.set i (some (.dat (.tuple es))))) fun d => noList d = true ∧ k es E (ρ.set j (some (.dat d))) := rfl
end
end DL
set_option Elab.async false
set_option linter.all false
set_option maxRecDepth 100000
set_option maxHeartbeats 400000
namespace L2
open PySem PySem.Spec PyProof.Rows
structure Flt (P : Program) (w : World) (outer : List PySem.Env) (H H' : Hp) (s s' : Shared) (e C t : Addr) (B : Heap) : Prop where
  os : s'.os = s.os
  bare : AllBare s'.gens
  un : Un (frs outer) [] H H' s.heap s'.heap
  hok : HOk P w H' s'.heap
  frf : ∀ b ∈ frs outer, H' b = none
  fly : Heap.FlyingW B outer e (.ref C) (.ref t) s'.heap
  new : s.heap.get? e = none
  untr : H' e = none
  old : ∀ b o, s'.heap.get? b = some o → b ∉ frs outer → (H' b ≠ none ∨ ∃ o', s.heap.get? b = some o') → B.get? b = some o
def CXr (P : Program) (w : World) : CXT := fun outer H s E e s' => ∃ ea C t B H', e = .ref ea ∧ E (.ref C) none H' ∧ Flt P w outer H H' s s' ea C t B
theorem ObjOk.there {P : Program} {w : World} {H : Hp} {h : Heap} {a : Addr} {o : HO} (x : ObjOk P w H h a o) : ∃ ob, h.get? a = some ob := by
  cases o with
  | lst xs => obtain ⟨_, _, _, _, e⟩ := x; exact ⟨_, e⟩
  | tup xs => obtain ⟨_, _, _, ob, e, _⟩ := x; exact ⟨_, e⟩
  | dK kvs => obtain ⟨_, _, _, _, o, _, _, e, _⟩ := x; exact ⟨_, e⟩
  | dT kvs => obtain ⟨_, _, _, _, o, _, _, e, _⟩ := x; exact ⟨_, e⟩
  | set S n => obtain ⟨o, _, _, _, e, _⟩ := x; exact ⟨_, e⟩
  | ins C dx fs => obtain ⟨_, _, _, e, _⟩ := x; exact ⟨_, e⟩
  | own y => exact x
  | xd fs => obtain ⟨_, ⟨_, _, _, e, _⟩, _⟩ := x; exact ⟨_, e⟩
  | rng lo hi => obtain ⟨_, _, _, e⟩ := x; exact ⟨_, e⟩
  | frz ob u => obtain ⟨e, _⟩ := x; exact ⟨_, e⟩
  | tbl ps => exact ⟨_, show h.get? a = some _ from x⟩
  | met f y => exact ⟨_, show h.get? a = some _ from x⟩
  | ext φ => obtain ⟨_, e, _⟩ := x; exact e
section
variable {P : Program} {w : World} {outer : List PySem.Env} {H H' : Hp} {s s' : Shared} {e C t : Addr} {B h : Heap}
theorem Flt.at' (F : Flt P w outer H H' s s' e C t B) (hB : B.StaysIn h) (up : s'.heap.UpToSlots h) : Un (frs outer) [] H H' s.heap h ∧ HOk P w H' h := by
  have sl : ∀ b o, b ∈ frs outer → s'.heap.get? b = some o → ∃ sl, h.get? b = some { o with slots := sl } := fun b o hb q => by
    obtain ⟨_, o', ho', hd⟩ := F.fly.2.2.1.mem hb
    rw [q] at ho'
    cases ho'
    exact up b o q hd
  refine ⟨⟨fun b o q n hb hx => ?_, fun b o q n hb hx => ?_, fun b o q n hx => F.un.free b o q n hx, fun b o q hx => ?_, F.un.tups, F.un.frzs, F.un.tbls⟩, fun a u q => ?_⟩
  · exact hB b o (F.old b o (F.un.keep b o q n hb hx) hb (.inr ⟨o, q⟩))
  · obtain ⟨s1, e1⟩ := F.un.slot b o q n hb hx
    obtain ⟨s2, e2⟩ := sl b _ hb e1
    exact ⟨s2, e2⟩
  · obtain ⟨o', e1⟩ := F.un.there b o q hx
    by_cases hb : b ∈ frs outer
    · obtain ⟨s2, e2⟩ := sl b _ hb e1
      exact ⟨_, e2⟩
    · exact ⟨o', hB b o' (F.old b o' e1 hb (.inr ⟨o, q⟩))⟩
  · refine (F.hok a u q).stay (fun b v hb hv => ?_) (fun _ z => z) fun _ _ z => z
    have nb : H' b ≠ none := by
      rcases hb with rfl | hb
      · rw [q]; simp
      · rw [hb]; simp
    exact hB b v (F.old b v hv (fun z => nb (F.frf b z)) (.inl nb))
end
def Raises (X : Cx) (C : Addr) (R : Hp → Prop) : Prop := ∀ (pins : List (Addr × Obj)) (σ : St) (H : Hp) (s : Shared) (e : Addr) (h' : Heap) (vs : List Value), Inv X pins σ H s → R H → Heap.MadeExcOf s.heap h' e (.ref C) vs → X.xe (.ref e) { s with heap := h' }
structure XCls (K : PySem.W.Frag) (mg : Str → Option Value) (x : Str) (C : Addr) : Prop where
  bound : mg x = some (.ref C)
  obj : ∀ h : Heap, K.In h → ∃ bm N nm q bs hdct sn sub ab col dd k0 k1 k2 k3 k5 mN, h.get? C = some (excClassObj nm q C N bs bm hdct sn sub ab col dd k0 k1 k2 k3 k5 "ValueError.__new__") ∧ h.Ns N mN ∧ mN "__init__" = none ∧ OwnTail h [.type "ValueError", .type "Exception", .type "BaseException", .type "object"] bm
section
variable {X : Cx}
def tRaise (R : Hp → Prop) : TS := fun _ _ H => R H
end
end L2
set_option Elab.async false
set_option linter.all false
set_option maxRecDepth 100000
set_option maxHeartbeats 400000
namespace L2
open PySem PySem.Spec PyProof.Rows
abbrev Cx.mrk (X : Cx) (e : Addr) : Cx := { X with A := X.A.mark (some (.ref e)), calm := false, xe := fun _ _ => False }
theorem Cx.Ok.mrk {X : Cx} (ok : X.Ok) (e : Addr) : (X.mrk e).Ok :=
  ⟨ok.mod, ok.kind, ok.glob, ok.blt, ok.above, ok.inj, ok.has, ok.cab, fun z => (by cases z), ok.frames, ok.stk, ok.exf, ok.bs, ok.bsz, ok.noex, ok.exfs, ok.funs, ok.frf⟩
section
variable {X : Cx} {pins : List (Addr × Obj)} {σ : St} {H : Hp} {s : Shared} {e : Addr}
theorem Inv.mrk (I : Inv X pins σ H s) (e : Addr) : Inv (X.mrk e) pins σ H s := ⟨I.ok.mrk e, I.os, I.bare, I.base, I.loc, I.cell, I.free, I.freeC, I.pin, I.hok, I.len⟩
end
def tTry (sp : Sp) (t : TA) (C : Addr) (i : Nat) : TS := fun D σ H => t σ H fun vs H1 => sp vs H1 (fun v H2 => D.nx (σ.set i (some v)) H2) (fun c _ H2 => c = .ref C ∧ D.nx (σ.set i (some .non)) H2)
end L2
set_option Elab.async false
set_option linter.all false
set_option maxRecDepth 100000
set_option maxHeartbeats 400000
namespace DL
open PySem PySem.Spec PyProof.Rows L2
def spPR (K : PySem.W.Frag) (C : Addr) (g : Prop → List PyData → Pp PyData) : Sp := fun vs H Q E => ∃ Hs Hr ds Q0 R0, J H Hs e0 Hr ∧ DvAll K Hs vs ds ∧ g R0 ds Q0 ∧ (∀ d v H' Hs', Q0 d → J H' Hs' e0 Hr → Same Hs Hs' → Dv K Hs' v d → Q v H') ∧ ∀ H' Hs', R0 → J H' Hs' e0 Hr → Same Hs Hs' → E (.ref C) none H'
def RSR (W : Wd) (t : (Hp → Prop) → TS) (f : Prop → Sm) : Prop := ∀ (R : Hp → Prop) (R0 : Prop) D σ H Hs Hr ρ E, SR W Hr H Hs σ ρ → f R0 E ρ → Ct W Hr Hs D E → (∀ H' Hs', R0 → G W Hr H' Hs' → Same Hs Hs' → R H') → t R D σ H
def sRz (R0 : Prop) : Sm := fun _ _ => R0
section
variable {W : Wd}
def sTry (i : Nat) (g : Prop → List PyData → Pp PyData) (fs : Env → Pp (List PyData)) : Sm := fun E ρ => fs ρ fun ds => ds.all noPot = true ∧ g (E.nx (ρ.set i (some (.dat .none)))) ds fun d => E.nx (ρ.set i (some (.dat d)))
end
section
variable {κ : Kx} {C : Addr} {c e : Expr} {es : List Expr} {fs : Env → Pp (List PyData)} {f1 : Env → Pp Bool} {st : Stmt} {rest body ss : List Stmt} {pos : Pos}
def XSR (κ : Kx) (C : Addr) (ss : List Stmt) (f : Prop → Sm) : Prop := ∃ t, (∀ X R, Cn κ X.nox → Raises X C R → PSs X ss (t R)) ∧ ∀ d Pt, κ.fam d Pt → RSR (κ.W d Pt) t f
def XSP (κ : Kx) (ss : List Stmt) (f : Sm) : Prop := ∃ t, (∀ X, Cn κ X → X.stack = X.env :: X.outer → X.env.frame = some X.env.locals → X.ex = [] → PSs X ss t) ∧ ∀ d Pt, κ.fam d Pt → RS (κ.W d Pt) t f
structure CalleeR (P : Program) (w : World) (K : PySem.W.Frag) (mg : Str → Option Value) (base : Heap) (n : Nat) (x : Str) (ps : List Str) (sp : Sp) : Prop where
  ex : ∃ (f : Addr) (fd : FuncData), FnOk P w K mg base (CXr P w) n f fd ps sp ∧ Binds K fd ps [] ∧ PySem.W.keepIn K (.ref f) = true ∧ mg x = some (.ref f)
end
section
variable {P : Program} {w : World} {K : PySem.W.Frag} {mg : Str → Option Value} {base : Heap}
end
section
variable {f g : Sm} {E : En} {ρ : Env} {R0 : Prop} {i : Nat} {fs : Env → Pp (List PyData)} {gr : Prop → List PyData → Pp PyData}
@[simp] theorem s_sRz : sRz R0 E ρ = R0 := rfl
@[simp] theorem s_sTry : sTry i gr fs E ρ = fs ρ fun ds => ds.all noPot = true ∧ gr (E.nx (ρ.set i (some (.dat .none)))) ds fun d => E.nx (ρ.set i (some (.dat d))) := rfl
end
end DL
set_option Elab.async false
set_option linter.all false
set_option maxRecDepth 100000
set_option maxHeartbeats 1600000
namespace DS
open PySem PySem.Spec PyProof.Rows L2
section
variable {prog : Program} {w : World} {K : Type} [DecidableEq K] {knd : PySem.KeyKind prog w K} {A : Around} {E : Value → Shared → Prop} {s : Shared} {d : Addr} {kvs : List (K × Value)} {ep : Nat}
end
end DS
namespace DS
open PySem PySem.Spec PyProof.Rows L2
section
variable {prog : Program} {w : World} {A : Around} {E : Value → Shared → Prop} {s : Shared} {d : Addr} {kvs : List (Key × Value)} {ep : Nat}
end
section
variable {X : Cx}
def rSortDK : List V → Hp → VK → Prop := fun vs H Q => ∃ (a : Addr) (o : Obj) (kvs : List (Key × V)) (ns : List Int), vs = [V.ref a] ∧ H a = some (.frz o (.dK kvs)) ∧ kvs.map (·.1) = ns.map Sum.inl ∧ ∀ (ns' : List Int) (p : Addr), ns'.Perm ns → ns'.Pairwise (· ≤ ·) → ns'.length ≤ sizeLine → H p = none → Q (.ref p) (upd H p (.lst (ns'.map V.int)))
end
end DS
set_option Elab.async false
set_option linter.all false
set_option maxRecDepth 100000
set_option maxHeartbeats 400000
namespace DL
open PySem L2
def dkIn (ds : List PyData) : Option (List Int) := match ds with
  | [.dict (_ :: es)] => asInts (es.map (·.1))
  | _ => none
def fSortD (fs : Env → Pp (List PyData)) : Env → Pp (List PyData) := fun ρ => bnd (fs ρ) fun ds => bnd (ofO (dkIn ds)) fun ns => ret ((isort ns).map PyData.int)
def keyIs (i : Int) : PyData → Bool
  | .int j => decide (j = i)
  | _ => false
def dGetD (a b : PyData) : Option PyData := match a, b with
  | .dict (_ :: es), .int i => (es.find? fun e => keyIs i e.1).map (·.2)
  | _, _ => none
theorem KAll.ints {K : PySem.W.Frag} {H : Hp} : ∀ {kvs : List (Key × V)} {es : List (PyData × PyData)} {ns : List Int}, KAll K H kvs es → asInts (es.map (·.1)) = some ns → kvs.map (·.1) = ns.map Sum.inl
  | _, _, _, .nil, e => by cases e; rfl
  | _, _, ns, .cons (k := k) (es := es) a b, e => by
    cases k with
    | inr x => cases e
    | inl i =>
      rw [List.map_cons] at e
      cases h : asInts (es.map (·.1)) with
      | none => simp [kD, asInts, h] at e
      | some ms =>
        simp [kD, asInts, h] at e
        subst e
        rw [List.map_cons, List.map_cons, KAll.ints b h]
section
variable {W : Wd} {ta : TA} {t u : TE} {fs : Env → Pp (List PyData)} {fa fb : Env → Pp PyData}
end
section
variable {κ : Kx} {a b e : Expr} {fa fb : Env → Pp PyData} {fs : Env → Pp (List PyData)} {pos p : Pos}
end
end DL
set_option Elab.async false
set_option linter.all false
set_option maxRecDepth 100000
set_option maxHeartbeats 400000
namespace DL
open PySem L2
section
variable {κ : Kx} {C : Addr} {e : Expr} {es : List Expr} {fs : Env → Pp (List PyData)} {pos p : Pos}
end
end DL
set_option Elab.async false
set_option linter.all false
set_option maxRecDepth 100000
set_option maxHeartbeats 400000
namespace L2
open PySem PySem.Spec PyProof.Rows
section
variable {prog : Program} {w : World} {A : Around} {E : Value → Shared → Prop} {s : Shared}
end
section
variable {X : Cx}
end
end L2
namespace DL
open PySem L2
def dCat : PyData → PyData → Option PyData
  | .tuple xs, .tuple ys => if xs.length + ys.length ≤ sizeLine then some (.tuple (xs ++ ys)) else none
  | _, _ => none
def sAugT (i : Nat) (fe : Env → Pp PyData) : Sm := fun E ρ => ∃ a, datAt ρ i = some a ∧ fe ρ fun b => ofO (dCat a b) fun d => E.nx (ρ.set i (some (.dat d)))
@[simp] theorem s_sAugT {i : Nat} {fe : Env → Pp PyData} {E : En} {ρ : Env} : sAugT i fe E ρ = ∃ a, datAt ρ i = some a ∧ fe ρ fun b => ofO (dCat a b) fun d => E.nx (ρ.set i (some (.dat d))) := rfl
@[simp] theorem s_catT {xs ys : List PyData} : dCat (.tuple xs) (.tuple ys) = if xs.length + ys.length ≤ sizeLine then some (.tuple (xs ++ ys)) else none := rfl
end DL
set_option Elab.async false
set_option linter.all false
set_option maxRecDepth 100000
set_option maxHeartbeats 1600000
namespace L2
open PySem PySem.Spec PyProof.Rows PySem.W
structure XLook (K : PySem.W.Frag) (C : Addr) : Prop where
  ga : findIn K (.ref C) "__getattribute__" = some (some (.builtin "BaseException.__getattribute__"))
  gt : findIn K (.ref C) "__getattr__" = some none
  cl : findIn K (.ref C) "__class__" = some (some (.builtin "object.__class__"))
  base : mroIn K C (.type "BaseException") = some true
  obj : mroIn K C (.type "object") = some true
  cls : ∃ cd, clsIn K C = some cd
section
variable {K : PySem.W.Frag} {prog : Program} {w : World} {A : Around} {E : Value → Shared → Prop} {h : Heap} {g : Array GenState} {d : Drawn} {t : Nat} {os : OsState} {a C : Addr} {o : Obj}
def ExcAt (a C : Addr) (h : Heap) : Prop := ∃ o, h.get? a = some o ∧ o.cls = .ref C
end
end L2
set_option Elab.async false
set_option linter.all false
set_option maxRecDepth 100000
set_option maxHeartbeats 400000
namespace L2
open PySem PySem.Spec PyProof.Rows PySem.W
abbrev ExcO (a C : Addr) : HO := .ext (ExcAt a C)
section
variable {X : Cx} {pins : List (Addr × Obj)} {σ : St} {H : Hp} {s : Shared} {e : Addr}
theorem Inv.track {a : Addr} {u : HO} (I : Inv X pins σ H s) (hH : H a = none) (h0 : X.s_0.heap.get? a = none) (haL : a ≠ X.env.locals) (hC : ∀ x c, X.env.cells.lookup x = some c → c ≠ a) (hp : ∀ p ∈ X.pn ++ pins, p.1 ≠ a) (ok : ObjOk X.prog X.w (upd H a u) s.heap a u) : Inv X pins σ (upd H a u) s := by
  have ne : ∀ b o, X.s_0.heap.get? b = some o → b ≠ a := fun b o q z => by rw [z, h0] at q; cases q
  refine ⟨I.ok, I.os, I.bare, ⟨I.base.keep, I.base.slot, fun b o q n hx => by rw [upd_ne (ne b o q)]; exact I.base.free b o q n hx, I.base.there, fun b xs q => ?_, fun b o v q => ?_, fun b ps q => ?_⟩, I.loc, I.cell, by rw [upd_ne haL.symm]; exact I.free, fun x c q => by rw [upd_ne (hC x c q)]; exact I.freeC x c q, fun p hpp => ?_, fun b v q => ?_, I.len⟩
  · have := I.base.tups b xs q
    rw [upd_ne (ne_of_none this hH)]; exact this
  · have := I.base.frzs b o v q
    rw [upd_ne (ne_of_none this hH)]; exact this
  · obtain ⟨more, this⟩ := I.base.tbls b ps q
    exact ⟨more, by rw [upd_ne (ne_of_none this hH)]; exact this⟩
  · obtain ⟨e1, n, r⟩ := I.pin p hpp
    exact ⟨e1, by rw [upd_ne (hp p hpp)]; exact n, r⟩
  · by_cases hb : b = a
    · subst hb
      rw [upd_same] at q
      cases q
      exact ok
    · rw [upd_ne hb] at q
      exact (I.hok b v q).stay (fun _ _ _ z => z) (fun c z => by rw [upd_ne (ne_of_none z hH)]; exact z) fun c xs z => by rw [upd_ne (ne_of_none z hH)]; exact z
end
end L2
set_option Elab.async false
set_option linter.all false
set_option maxRecDepth 100000
set_option maxHeartbeats 400000
namespace L2
open PySem PySem.Spec PyProof.Rows PySem.W
structure XUp (K : PySem.W.Frag) (mg : Str → Option Value) (x : Str) (C W : Addr) : Prop where
  bound : mg x = some (.ref W)
  up : exmOne K (.ref C) (.ref W) = some true
section
variable {X : Cx} {pins : List (Addr × Obj)} {σ : St} {H : Hp} {s : Shared} {e : Addr}
end
def tTryAs (sp : Sp) (t : TA) (C : Addr) (i j : Nat) : TS := fun D σ H => t σ H fun vs H1 => sp vs H1 (fun _ H2 => D.nx σ H2) (fun c _ H2 => c = .ref C ∧ ∀ ea, H2 ea = none → D.nx (((σ.set j (some (.ref ea))).set i (some (.ref ea))).set j none) (upd H2 ea (ExcO ea C)))
end L2
set_option Elab.async false
set_option linter.all false
set_option maxRecDepth 100000
set_option maxHeartbeats 400000
namespace DL
open PySem PySem.Spec PyProof.Rows L2
open PySem.W (kitOne kia_one)
def rIsE (C : Addr) (vc : V) (b : Bool) : List V → Hp → VK → Prop := fun vs H Q => ∃ ea, vs = [.ref ea, vc] ∧ H ea = some (ExcO ea C) ∧ Q (.bl b) H
abbrev famE (C : Addr) : Addr → (Hp → Prop) → Prop := fun d Pt => Pt = fun Hq => Hq = upd e0 d (ExcO d C)
def eIsE (b : Bool) (fa : Env → Pp PyData) : Env → Pp PyData := fun ρ => bnd (fa ρ) fun d => fun Q => d = .dict [] ∧ Q (.bool b)
structure XIs (K : PySem.W.Frag) (mg : Str → Option Value) (x : Str) (C : Addr) (b : Bool) : Prop where
  ex : ∃ W, mg x = some (.ref W) ∧ kitOne K (.ref C) (.ref W) = some b
structure XIsB (K : PySem.W.Frag) (mg : Str → Option Value) (x : Str) (C : Addr) (b : Bool) : Prop where
  ex : ∃ T, mg x = none ∧ bootBuiltins x = some (.type T) ∧ kitOne K (.ref C) (.type T) = some b
section
variable {κ : Kx} {C : Addr} {a : Expr} {fa : Env → Pp PyData} {p p1 pos : Pos}
end
@[simp] theorem s_isE {b : Bool} {fa : Env → Pp PyData} {ρ : Env} {Q : PyData → Prop} : eIsE b fa ρ Q = fa ρ fun d => d = .dict [] ∧ Q (.bool b) := rfl
end DL
set_option Elab.async false
set_option linter.all false
set_option maxRecDepth 100000
set_option maxHeartbeats 400000
namespace DL
open PySem PySem.Spec PyProof.Rows L2
def sRefuse (i : Nat) (k : Int) (gR : Prop → List PyData → Pp PyData) (gA : List PyData → Pp PyData) (fs : Env → Pp (List PyData)) : Sm := fun E ρ => i < ρ.length ∧ fs (ρ.set i (some (.dat .none))) fun ds => ds.all noPot = true ∧ gR (gA [.dict [], .int k] fun d => noPot d = true ∧ E.rt d) ds fun _ => False
theorem J.merge {H Hs Hq Hr : Hp} (j : J H Hs Hq Hr) : J H (plus Hs Hq) e0 Hr := fun a => by
  rcases j a with ⟨h, h1, h2⟩ | ⟨h, h1, h2⟩ | ⟨h, h1, h2⟩
  · refine .inl ⟨?_, rfl, h2⟩
    cases e : Hs a with
    | none => rw [plus_r e, h1, h, e]
    | some o => rw [plus_l e, h, e]
  · exact .inl ⟨by rw [plus_r h1]; exact h, rfl, h2⟩
  · exact .inr (.inr ⟨h, by rw [plus_r h1]; exact h2, rfl⟩)
section
variable {κ : Kx} {C Wc : Addr} {e : Expr} {es : List Expr} {fs : Env → Pp (List PyData)}
end
@[simp] theorem s_sRefuse {i : Nat} {k : Int} {gR : Prop → List PyData → Pp PyData} {gA : List PyData → Pp PyData} {fs : Env → Pp (List PyData)} {E : En} {ρ : Env} : sRefuse i k gR gA fs E ρ = (i < ρ.length ∧ fs (ρ.set i (some (.dat .none))) fun ds => ds.all noPot = true ∧ gR (gA [.dict [], .int k] fun d => noPot d = true ∧ E.rt d) ds fun _ => False) := rfl
end DL
set_option Elab.async false
set_option linter.all false
set_option maxRecDepth 100000
set_option maxHeartbeats 400000
namespace L2
open PySem PySem.Spec PyProof.Rows PySem.W
def orSp (a b : Sp) : Sp := fun vs H Q E => a vs H Q E ∨ b vs H Q E
theorem FnOk.or {P : Program} {w : World} {K : PySem.W.Frag} {mg : Str → Option Value} {base : Heap} {CX : CXT} {k : Nat} {f : Addr} {fd : FuncData} {ps : List Str} {a b : Sp} (F : FnOk P w K mg base CX k f fd ps a) (G : FnOk P w K mg base CX k f fd ps b) : FnOk P w K mg base CX k f fd ps (orSp a b) :=
  ⟨fun vs H Q E h => h.elim (F.len vs H Q E) (G.len vs H Q E), fun A o s H args us vs Q E r e bi va h => h.elim (F.run A o s H args us vs Q E r e bi va) (G.run A o s H args us vs Q E r e bi va)⟩
def tTryIf (tc : TT) (u1 u2 : TS) : TS := fun D σ H => tc σ H fun b H1 => if b = true then u1 D σ H1 else u2 D σ H1
structure TB (X : Cx) (fa C : Addr) (fd : FuncData) (f : Str) (ps : List Str) (sp : Sp) (k : Nat) (c : Str) (W : Addr) : Prop where
  F : FnOk X.prog X.w X.K X.mg X.base (CXr X.prog X.w) k fa fd ps sp
  r : Room k X.A
  g : Gl X f
  m : X.mg f = some (.ref fa)
  kp : PySem.W.keepIn X.K (.ref fa) = true
  b : Binds X.K fd ps []
  O : XUp X.K X.mg c C W
  db : (f == ("__debug__" : Str)) = false
end L2
namespace DL
open PySem PySem.Spec PyProof.Rows L2
def kRefuse (i j : Nat) (gR : Prop → List PyData → Pp PyData) (gA : List PyData → Pp PyData) (fs : Env → Pp (List PyData)) (f2 : Env → Pp PyData) : (PyData → Prop) → Env → Prop := fun Q ρ => fs ρ fun ds => ds.all noPot = true ∧ gR (f2 ((ρ.set i none).set j none) fun x => noPot x = true ∧ gA [.dict [], x] fun d => noPot d = true ∧ Q d) ds fun _ => False
theorem J.swap {H Hs Hq R : Hp} {a : Addr} {o : HO} (j : J H Hs Hq (upd R a o)) (h : R a = none) : J H Hs (upd e0 a o) (plus Hq R) ∧ Apart Hq R := by
  refine ⟨fun b => ?_, fun b => ?_⟩
  · by_cases hb : b = a
    · subst hb
      rcases j b with ⟨h1, h2, h3⟩ | ⟨h1, h2, h3⟩ | ⟨h1, h2, h3⟩
      · rw [upd_same] at h3; cases h3
      · rw [upd_same] at h3; cases h3
      · rw [upd_same] at h1
        exact .inr (.inl ⟨by rw [upd_same, h1], h2, by rw [plus_r h3, h]⟩)
    · have e1 : upd e0 a o b = none := by rw [upd_ne hb]; rfl
      rcases j b with ⟨h1, h2, h3⟩ | ⟨h1, h2, h3⟩ | ⟨h1, h2, h3⟩
      · rw [upd_ne hb] at h3; exact .inl ⟨h1, e1, by rw [plus_r h2]; exact h3⟩
      · rw [upd_ne hb] at h3
        refine .inr (.inr ⟨?_, h2, e1⟩)
        cases e : Hq b with
        | none => rw [plus_r e, h3, h1, e]
        | some o => rw [plus_l e, h1, e]
      · rw [upd_ne hb] at h1; exact .inr (.inr ⟨by rw [plus_r h3]; exact h1, h2, e1⟩)
  · by_cases hb : b = a
    · subst hb; exact .inr h
    · have := j.qr b
      rwa [upd_ne hb] at this
def sRefuse2 (i j : Nat) (ft : Env → Pp Bool) (gR1 : Prop → List PyData → Pp PyData) (gA1 : List PyData → Pp PyData) (fs1 : Env → Pp (List PyData)) (gR2 : Prop → List PyData → Pp PyData) (gA2 : List PyData → Pp PyData) (fs2 : Env → Pp (List PyData)) (f2 : Env → Pp PyData) : Sm := fun E ρ => i < ρ.length ∧ ft (ρ.set i (some (.dat .none))) fun b =>
  if b = true then kRefuse i j gR1 gA1 fs1 f2 E.rt (ρ.set i (some (.dat .none))) else kRefuse i j gR2 gA2 fs2 f2 E.rt (ρ.set i (some (.dat .none)))
section
variable {κ : Kx} {C1 C2 Wc : Addr} {cnd e1 e2 e3 : Expr} {es1 es2 : List Expr} {ft : Env → Pp Bool} {fs1 fs2 : Env → Pp (List PyData)} {f3 : Env → Pp PyData}
end
@[simp] theorem s_sRefuse2 {i j : Nat} {ft : Env → Pp Bool} {gR1 gR2 : Prop → List PyData → Pp PyData} {gA1 gA2 : List PyData → Pp PyData} {fs1 fs2 : Env → Pp (List PyData)} {f2 : Env → Pp PyData} {E : En} {ρ : Env} : sRefuse2 i j ft gR1 gA1 fs1 gR2 gA2 fs2 f2 E ρ = (i < ρ.length ∧ ft (ρ.set i (some (.dat .none))) fun b =>
  if b = true then kRefuse i j gR1 gA1 fs1 f2 E.rt (ρ.set i (some (.dat .none))) else kRefuse i j gR2 gA2 fs2 f2 E.rt (ρ.set i (some (.dat .none)))) := rfl
@[simp] theorem s_kRefuse {i j : Nat} {gR : Prop → List PyData → Pp PyData} {gA : List PyData → Pp PyData} {fs : Env → Pp (List PyData)} {f2 : Env → Pp PyData} {Q : PyData → Prop} {ρ : Env} : kRefuse i j gR gA fs f2 Q ρ = fs ρ fun ds => ds.all noPot = true ∧ gR (f2 ((ρ.set i none).set j none) fun x => noPot x = true ∧ gA [.dict [], x] fun d => noPot d = true ∧ Q d) ds fun _ => False := rfl
end DL
set_option Elab.async false
set_option linter.all false
set_option maxRecDepth 100000
set_option maxHeartbeats 1000000
namespace TW
open PySem PyProof.Rows
open PySem.Sem (wp wp_pure' wp_bind' wp_mono wp_rule wp_unsupported)
structure Two where
  Ma : Model
  Mb : Model
  Ca : Ctx
  Cb : Ctx
  sa : Shared
  sb : Shared
  n : Nat
  fa : Nat → Keyed
  fb : Nat → Keyed
  ka : SortKind
  kb : SortKind
namespace Two
variable (T : Two)
def K (x y : Keyed) : Prop := ∃ k, x = T.fa k ∧ y = T.fb k
def Ar (a b : Array Keyed) : Prop := ∃ p : Array Nat, a = p.map T.fa ∧ b = p.map T.fb
def S (u v : SortSt) : Prop := ∃ a b q g, T.Ar a b ∧ u = SortSt.mk' T.ka a q g none ∧ v = SortSt.mk' T.kb b q g none
def no : Value → Pos → Shared → Prop := fun _ _ _ => False
def Sim {α β : Type} (R : α → β → Prop) (m : StateT SortSt Sem α) (m' : StateT SortSt Sem β) : Prop :=
  ∀ u v, T.S u v → ∀ (Q : β × SortSt → Pos → Shared → Prop) p p', wp T.Mb T.Cb (m'.run v) Q no p' T.sb →
    wp T.Ma T.Ca (m.run u) (fun r _ s => s = T.sa ∧ ∃ r' q, R r.1 r'.1 ∧ T.S r.2 r'.2 ∧ Q r' q T.sb) no p T.sa
variable {T}
theorem sim_pure {α β : Type} {R : α → β → Prop} {a : α} {b : β} (h : R a b) : T.Sim R (pure a) (pure b) := fun u v hS Q p p' hw => by
  rw [StateT.run_pure, wp_pure'] at hw ⊢
  exact ⟨rfl, _, _, h, hS, hw⟩
theorem sim_bind {α β γ δ : Type} {R : α → β → Prop} {R' : γ → δ → Prop} {m : StateT SortSt Sem α} {m' : StateT SortSt Sem β} {g : α → StateT SortSt Sem γ} {g' : β → StateT SortSt Sem δ}
    (hm : T.Sim R m m') (hg : ∀ a b, R a b → T.Sim R' (g a) (g' b)) : T.Sim R' (m >>= g) (m' >>= g') := fun u v hS Q p p' hw => by
  rw [StateT.run_bind, wp_bind'] at hw ⊢
  refine wp_mono _ _ _ (fun r q s hr => ?_) (fun _ _ _ e => e) _ _ (hm u v hS _ p p' hw)
  obtain ⟨rfl, r', q', h1, h2, h3⟩ := hr
  exact hg _ _ h1 _ _ h2 _ _ _ h3
theorem sim_get : T.Sim T.S (get : StateT SortSt Sem SortSt) (get : StateT SortSt Sem SortSt) := fun u v hS Q p p' hw => by
  rw [StateT.run_get, wp_pure'] at hw ⊢
  exact ⟨rfl, _, _, hS, hS, hw⟩
theorem sim_modify {g g' : SortSt → SortSt} (h : ∀ u v, T.S u v → T.S (g u) (g' v)) : T.Sim Eq (modify g : StateT SortSt Sem PUnit) (modify g' : StateT SortSt Sem PUnit) := fun u v hS Q p p' hw => by
  rw [StateT.run_modify, wp_pure'] at hw ⊢
  exact ⟨rfl, (PUnit.unit, g' v), _, rfl, h _ _ hS, hw⟩
theorem sim_set {u' v' : SortSt} (h : T.S u' v') : T.Sim Eq (set u' : StateT SortSt Sem PUnit) (set v' : StateT SortSt Sem PUnit) := fun u v hS Q p p' hw => by
  rw [StateT.run_set, wp_pure'] at hw ⊢
  exact ⟨rfl, (PUnit.unit, v'), _, rfl, h, hw⟩
theorem sim_lift {α β : Type} {R : α → β → Prop} {m : Sem α} {m' : Sem β} (h : ∀ (Q : β → Pos → Shared → Prop) p p', wp T.Mb T.Cb m' Q no p' T.sb → wp T.Ma T.Ca m (fun a _ s => s = T.sa ∧ ∃ b q, R a b ∧ Q b q T.sb) no p T.sa) :
    T.Sim R (liftM m : StateT SortSt Sem α) (liftM m' : StateT SortSt Sem β) := fun u v hS Q p p' hw => by
  have hw : wp T.Mb T.Cb ((StateT.lift m' : StateT SortSt Sem β).run v) Q no p' T.sb := hw
  show wp T.Ma T.Ca ((StateT.lift m : StateT SortSt Sem α).run u) _ no p T.sa
  rw [StateT.run_lift, wp_bind'] at hw ⊢
  refine wp_mono _ _ _ (fun a q s ha => ?_) (fun _ _ _ e => e) _ _ (h (fun b p s => wp T.Mb T.Cb (pure (b, v)) Q no p s) p p' hw)
  obtain ⟨rfl, b, q', h1, h2⟩ := ha
  rw [wp_pure'] at h2 ⊢
  exact ⟨rfl, _, _, h1, hS, h2⟩
theorem sim_rule {tag : String} : T.Sim Eq (liftM (rule tag) : StateT SortSt Sem Unit) (liftM (rule tag) : StateT SortSt Sem Unit) := sim_lift fun Q p p' hw => by
  unfold rule at hw ⊢
  rw [wp_rule] at hw ⊢
  have hw : wp T.Mb T.Cb (pure ()) Q no p' T.sb := hw
  show wp T.Ma T.Ca (pure ()) _ no p T.sa
  rw [wp_pure'] at hw ⊢
  exact ⟨rfl, _, _, rfl, hw⟩
theorem sim_unsup {α β : Type} {R : α → β → Prop} {x y : String} : T.Sim R (liftM (unsupported x : Sem α) : StateT SortSt Sem α) (liftM (unsupported y : Sem β) : StateT SortSt Sem β) := sim_lift fun Q p p' hw => by
  unfold unsupported at hw
  rw [wp_unsupported] at hw
  exact hw.elim
def RB {β γ : Type} (R : β → γ → Prop) : ForInStep β → ForInStep γ → Prop
  | .done a, .done b => R a b
  | .yield a, .yield b => R a b
  | _, _ => False
theorem sim_forL {β γ : Type} {R : β → γ → Prop} {f : Nat → β → StateT SortSt Sem (ForInStep β)} {f' : Nat → γ → StateT SortSt Sem (ForInStep γ)} (hs : ∀ x a b, R a b → T.Sim (RB R) (f x a) (f' x b)) : ∀ (l : List Nat) (a : β) (b : γ), R a b → T.Sim R (forIn l a f) (forIn l b f')
  | [], a, b, h => by rw [List.forIn_nil, List.forIn_nil]; exact sim_pure h
  | x :: l, a, b, h => by
    rw [List.forIn_cons, List.forIn_cons]
    refine sim_bind (hs x a b h) fun r r' hr => ?_
    cases r <;> cases r' <;> first | exact hr.elim | exact sim_pure hr | exact sim_forL hs l _ _ hr
theorem sim_for {β γ : Type} {R : β → γ → Prop} {lo hi : Nat} {a : β} {b : γ} {f : Nat → β → StateT SortSt Sem (ForInStep β)} {f' : Nat → γ → StateT SortSt Sem (ForInStep γ)} (h : R a b) (hs : ∀ x a b, R a b → T.Sim (RB R) (f x a) (f' x b)) : T.Sim R (forIn [lo:hi] a f) (forIn [lo:hi] b f') := by
  rw [Std.Legacy.Range.forIn_eq_forIn_range', Std.Legacy.Range.forIn_eq_forIn_range']
  exact sim_forL hs _ _ _ h
theorem sim_ite {α β : Type} {R : α → β → Prop} {c : Prop} [Decidable c] {m m2 : StateT SortSt Sem α} {m' m2' : StateT SortSt Sem β} (h1 : T.Sim R m m') (h2 : T.Sim R m2 m2') : T.Sim R (if c then m else m2) (if c then m' else m2') := by
  by_cases h : c
  · rw [if_pos h, if_pos h]; exact h1
  · rw [if_neg h, if_neg h]; exact h2
theorem sim_forE {β γ δ : Type} {R' : γ → δ → Prop} {lo hi : Nat} {a : β} {f f' : Nat → β → StateT SortSt Sem (ForInStep β)} {g : β → StateT SortSt Sem γ} {g' : β → StateT SortSt Sem δ} (hs : ∀ x a, T.Sim (RB Eq) (f x a) (f' x a)) (hg : ∀ a, T.Sim R' (g a) (g' a)) :
    T.Sim R' (forIn [lo:hi] a f >>= g) (forIn [lo:hi] a f' >>= g') :=
  sim_bind (R := Eq) (sim_for rfl fun x a b e => by subst e; exact hs x a) fun a b e => by subst e; exact hg a
theorem Ar.size {a b : Array Keyed} (h : T.Ar a b) : a.size = b.size := by
  obtain ⟨p, rfl, rfl⟩ := h
  rw [Array.size_map, Array.size_map]
theorem sim_elem {a b : Array Keyed} {i : Nat} (h : T.Ar a b) : T.Sim T.K (elem' a i) (elem' b i) := by
  obtain ⟨p, rfl, rfl⟩ := h
  rw [elem'_eq, elem'_eq, Array.getElem?_map, Array.getElem?_map]
  cases e : p[i]? with
  | none => exact sim_unsup
  | some k => exact sim_pure ⟨k, rfl, rfl⟩
theorem Ar.ext {a b : Array Keyed} (h : T.Ar a b) (i j : Nat) : T.Ar (a.extract i j) (b.extract i j) := by
  obtain ⟨p, rfl, rfl⟩ := h
  exact ⟨p.extract i j, by simp, by simp⟩
theorem Ar.app {a b c d : Array Keyed} (h : T.Ar a b) (h2 : T.Ar c d) : T.Ar (a ++ c) (b ++ d) := by
  obtain ⟨p, rfl, rfl⟩ := h
  obtain ⟨q, rfl, rfl⟩ := h2
  exact ⟨p ++ q, by simp, by simp⟩
theorem Ar.push {a b : Array Keyed} {x y : Keyed} (h : T.Ar a b) (h2 : T.K x y) : T.Ar (a.push x) (b.push y) := by
  obtain ⟨p, rfl, rfl⟩ := h
  obtain ⟨k, rfl, rfl⟩ := h2
  exact ⟨p.push k, by simp, by simp⟩
theorem Ar.one {x y : Keyed} (h2 : T.K x y) : T.Ar #[x] #[y] := by
  obtain ⟨k, rfl, rfl⟩ := h2
  exact ⟨#[k], by simp, by simp⟩
theorem Ar.rev {a b : Array Keyed} (h : T.Ar a b) : T.Ar a.reverse b.reverse := by
  obtain ⟨p, rfl, rfl⟩ := h
  exact ⟨p.reverse, by simp, by simp⟩
theorem Ar.swaps {a b : Array Keyed} (h : T.Ar a b) (u v : Nat → Nat) (l : List Nat) : T.Ar (l.foldl (fun x k => x.swapIfInBounds (u k) (v k)) a) (l.foldl (fun x k => x.swapIfInBounds (u k) (v k)) b) := by
  obtain ⟨p, rfl, rfl⟩ := h
  exact ⟨_, PySem.W.kas_swaps_map T.fa u v l p, PySem.W.kas_swaps_map T.fb u v l p⟩
theorem lay_map (f : Nat → Keyed) (j0 : Nat) : ∀ (l : List (Nat × Nat)) (p : Array Nat), (l.map fun e => (f e.1, e.2)).foldl (fun x e => x.setIfInBounds (j0 + e.2) e.1) (p.map f) = (l.foldl (fun x e => x.setIfInBounds (j0 + e.2) e.1) p).map f
  | [], _ => rfl
  | e :: l, p => by
    rw [List.map_cons, List.foldl_cons, List.foldl_cons, ← lay_map f j0 l]
    congr 1
    simp
theorem zip_map (f : Nat → Keyed) (q : Array Nat) : (q.map f).toList.zipIdx = q.toList.zipIdx.map fun e => (f e.1, e.2) := by
  rw [Array.toList_map, List.zipIdx_map]; rfl
theorem Ar.lay {a b c d : Array Keyed} (h : T.Ar a b) (h2 : T.Ar c d) (j0 : Nat) : T.Ar (c.toList.zipIdx.foldl (fun x e => x.setIfInBounds (j0 + e.2) e.1) a) (d.toList.zipIdx.foldl (fun x e => x.setIfInBounds (j0 + e.2) e.1) b) := by
  obtain ⟨p, rfl, rfl⟩ := h
  obtain ⟨q, rfl, rfl⟩ := h2
  rw [zip_map, zip_map, lay_map, lay_map]
  exact ⟨_, rfl, rfl⟩
structure Cmp (T : Two) (rk : Nat → Nat) : Prop where
  a : ∀ i j p, wp T.Ma T.Ca (keyLt' T.ka (T.fa i).1 (T.fa j).1) (fun b _ s => s = T.sa ∧ b = decide (rk i < rk j)) no p T.sa
  b : ∀ i j p (Q : Bool → Pos → Shared → Prop) (E : Value → Pos → Shared → Prop), wp T.Mb T.Cb (keyLt' T.kb (T.fb i).1 (T.fb j).1) Q E p T.sb → ∃ q, Q (decide (rk i < rk j)) q T.sb
def Som {α : Type} (a b : Option α) : Prop := ∃ c, a = some c ∧ b = some c
theorem sim_lt {rk : Nat → Nat} (C : Cmp T rk) {x y x' y' : Keyed} (hx : T.K x x') (hy : T.K y y') : T.Sim Som (lt' x y) (lt' x' y') := by
  obtain ⟨i, rfl, rfl⟩ := hx
  obtain ⟨j, rfl, rfl⟩ := hy
  rw [lt'_eq, lt'_eq]
  refine sim_bind sim_get fun u v hS => ?_
  obtain ⟨a, b, q, g, _, rfl, rfl⟩ := hS
  refine sim_bind (R := fun a b => ∃ c, a = .ok c ∧ b = .ok c) (sim_lift fun Q p p' hw => ?_) fun r r' hr => ?_
  · rw [Sem.wp_attempt] at hw ⊢
    obtain ⟨q', hq⟩ := C.b i j p' _ _ hw
    refine wp_mono _ _ _ (fun c _ s hc => ?_) (fun _ _ _ e => e.elim) _ _ (C.a i j p)
    obtain ⟨rfl, rfl⟩ := hc
    exact ⟨rfl, _, _, ⟨_, rfl, rfl⟩, hq⟩
  · obtain ⟨c, rfl, rfl⟩ := hr
    exact sim_pure ⟨c, rfl, rfl⟩
theorem sim_ltAt {rk : Nat → Nat} (C : Cmp T rk) (i j : Nat) : T.Sim Som (ltAt' i j) (ltAt' i j) := by
  rw [ltAt'_eq]
  refine sim_bind sim_get fun u v hS => ?_
  obtain ⟨a, b, q, g, h, rfl, rfl⟩ := hS
  exact sim_bind (sim_elem h) fun x x' hx => sim_bind (sim_elem h) fun y y' hy => sim_lt C hx hy
theorem sim_rev (i j : Nat) : T.Sim Eq (reverseSlice' i j) (reverseSlice' i j) := by
  rw [reverseSlice'_eq]
  refine sim_modify fun u v hS => ?_
  obtain ⟨a, b, q, g, h, rfl, rfl⟩ := hS
  exact ⟨_, _, q, g, h.swaps (fun k => i + k) (fun k => j - 1 - k) _, rfl, rfl⟩
theorem sim_down (i j : Nat) : T.Sim Eq (moveDown' i j) (moveDown' i j) := by
  rw [moveDown'_eq]
  refine sim_modify fun u v hS => ?_
  obtain ⟨a, b, q, g, h, rfl, rfl⟩ := hS
  exact ⟨_, _, q, g, h.swaps (fun k => i - k) (fun k => i - k - 1) _, rfl, rfl⟩
theorem sim_gal (g0 : Nat) : T.Sim Eq (setMinGallop' g0) (setMinGallop' g0) := by
  rw [setMinGallop'_eq]
  refine sim_modify fun u v hS => ?_
  obtain ⟨a, b, q, g, h, rfl, rfl⟩ := hS
  exact ⟨_, _, q, g0, h, rfl, rfl⟩
theorem sim_bin {rk : Nat → Nat} (C : Cmp T rk) (lo n ok : Nat) : T.Sim Eq (binarySort' lo n ok) (binarySort' lo n ok) := by
  rw [binarySort'_eq]
  repeat' (first
    | exact sim_pure rfl
    | (refine sim_bind (sim_ltAt C _ _) ?_; rintro _ _ ⟨b, rfl, rfl⟩)
    | (refine sim_bind (sim_rev _ _) ?_; rintro _ _ rfl)
    | (refine sim_bind (sim_down _ _) ?_; rintro _ _ rfl)
    | (refine sim_bind sim_rule ?_; rintro _ _ rfl)
    | refine sim_forE (fun x c => ?_) (fun c => ?_)
    | dsimp only
    | split)
theorem sim_run {rk : Nat → Nat} (C : Cmp T rk) (lo n : Nat) : T.Sim Eq (countRun' lo n) (countRun' lo n) := by
  rw [countRun'_eq]
  repeat' (first
    | exact sim_pure rfl
    | (refine sim_bind (sim_ltAt C _ _) ?_; rintro _ _ ⟨b, rfl, rfl⟩)
    | (refine sim_bind (sim_rev _ _) ?_; rintro _ _ rfl)
    | (refine sim_bind (sim_down _ _) ?_; rintro _ _ rfl)
    | (refine sim_bind sim_rule ?_; rintro _ _ rfl)
    | refine sim_forE (fun x c => ?_) (fun c => ?_)
    | dsimp only
    | split)
theorem sim_beyond {rk : Nat → Nat} (C : Cmp T rk) (left : Bool) {x y : Keyed} {a b : Array Keyed} (hx : T.K x y) (ha : T.Ar a b) (base i : Nat) : T.Sim Som (beyond' left x a base i) (beyond' left y b base i) := by
  unfold beyond'
  refine sim_bind (sim_elem ha) fun u v hu => ?_
  cases left with
  | true => exact sim_lt C hu hx
  | false =>
    refine sim_bind (sim_lt C hx hu) fun c c' hc => ?_
    obtain ⟨d, rfl, rfl⟩ := hc
    exact sim_pure ⟨_, rfl, rfl⟩
theorem sim_gallop {rk : Nat → Nat} (C : Cmp T rk) (left : Bool) {x y : Keyed} {a b : Array Keyed} (hx : T.K x y) (ha : T.Ar a b) (base n hint : Nat) : T.Sim Eq (gallop' left x a base n hint) (gallop' left y b base n hint) := by
  rw [gallop'_eq, gallop'_eq]
  repeat' (first
    | exact sim_pure rfl
    | (refine sim_bind (sim_beyond C left hx ha _ _) ?_; rintro _ _ ⟨b, rfl, rfl⟩)
    | refine sim_forE (fun x c => ?_) (fun c => ?_)
    | dsimp only
    | split)
def RO (x y : Option (Array Keyed)) : Prop := match x, y with
  | none, none => True
  | some a, some b => T.Ar a b
  | _, _ => False
variable (T) in
def RM {γ : Type} (x y : Option (Array Keyed) × Array Keyed × γ) : Prop := RO (T := T) x.1 y.1 ∧ T.Ar x.2.1 y.2.1 ∧ x.2.2 = y.2.2
theorem sim_forM {γ δ ε : Type} {R' : δ → ε → Prop} {lo hi : Nat} {o o' : Array Keyed} {g0 : γ} {f f' : Nat → Option (Array Keyed) × Array Keyed × γ → StateT SortSt Sem (ForInStep (Option (Array Keyed) × Array Keyed × γ))} {k : Option (Array Keyed) × Array Keyed × γ → StateT SortSt Sem δ} {k' : Option (Array Keyed) × Array Keyed × γ → StateT SortSt Sem ε}
    (h : T.Ar o o') (hs : ∀ x o o' g, T.Ar o o' → ∀ r r', T.Sim (RB T.RM) (f x (r, o, g)) (f' x (r', o', g))) (hk : ∀ o o' g, T.Ar o o' → T.Sim R' (k (none, o, g)) (k' (none, o', g))) (hd : ∀ r r' o o' g, T.Ar r r' → T.Ar o o' → T.Sim R' (k (some r, o, g)) (k' (some r', o', g))) :
    T.Sim R' (forIn [lo:hi] (none, o, g0) f >>= k) (forIn [lo:hi] (none, o', g0) f' >>= k') := by
  refine sim_bind (R := T.RM) (sim_for ⟨trivial, h, rfl⟩ fun x a b e => ?_) fun a b e => ?_
  · obtain ⟨r, o, g⟩ := a
    obtain ⟨r', o', g'⟩ := b
    obtain ⟨_, h2, h3⟩ := e
    cases h3
    exact hs x o o' g h2 r r'
  · obtain ⟨r, o, g⟩ := a
    obtain ⟨r', o', g'⟩ := b
    obtain ⟨h1, h2, h3⟩ := e
    cases h3
    cases r <;> cases r' <;> first | exact h1.elim | exact hk o o' g h2 | exact hd _ _ o o' g h1 h2
variable (T) in
def RH {γ : Type} (x y : Option (Array Keyed) × Nat × Nat × Array Keyed × γ) : Prop := RO (T := T) x.1 y.1 ∧ x.2.1 = y.2.1 ∧ x.2.2.1 = y.2.2.1 ∧ T.Ar x.2.2.2.1 y.2.2.2.1 ∧ x.2.2.2.2 = y.2.2.2.2
theorem sim_forH {γ δ ε : Type} {R' : δ → ε → Prop} {lo hi : Nat} {o o' : Array Keyed} {na nb : Nat} {g0 : γ} {f f' : Nat → Option (Array Keyed) × Nat × Nat × Array Keyed × γ → StateT SortSt Sem (ForInStep (Option (Array Keyed) × Nat × Nat × Array Keyed × γ))} {k : Option (Array Keyed) × Nat × Nat × Array Keyed × γ → StateT SortSt Sem δ} {k' : Option (Array Keyed) × Nat × Nat × Array Keyed × γ → StateT SortSt Sem ε}
    (h : T.Ar o o') (hs : ∀ x na nb o o' g, T.Ar o o' → ∀ r r', T.Sim (RB T.RH) (f x (r, na, nb, o, g)) (f' x (r', na, nb, o', g))) (hk : ∀ na nb o o' g, T.Ar o o' → T.Sim R' (k (none, na, nb, o, g)) (k' (none, na, nb, o', g))) (hd : ∀ r r' na nb o o' g, T.Ar r r' → T.Ar o o' → T.Sim R' (k (some r, na, nb, o, g)) (k' (some r', na, nb, o', g))) :
    T.Sim R' (forIn [lo:hi] (none, na, nb, o, g0) f >>= k) (forIn [lo:hi] (none, na, nb, o', g0) f' >>= k') := by
  refine sim_bind (R := T.RH) (sim_for ⟨trivial, rfl, rfl, h, rfl⟩ fun x a b e => ?_) fun a b e => ?_
  · obtain ⟨r, na, nb, o, g⟩ := a
    obtain ⟨r', na', nb', o', g'⟩ := b
    obtain ⟨_, h4, h5, h2, h3⟩ := e
    cases h3
    cases h4
    cases h5
    exact hs x na nb o o' g h2 r r'
  · obtain ⟨r, na, nb, o, g⟩ := a
    obtain ⟨r', na', nb', o', g'⟩ := b
    obtain ⟨h1, h4, h5, h2, h3⟩ := e
    cases h3
    cases h4
    cases h5
    cases r <;> cases r' <;> first | exact h1.elim | exact hk na nb o o' g h2 | exact hd _ _ na nb o o' g h1 h2
set_option maxHeartbeats 6000000 in
theorem sim_lo {rk : Nat → Nat} (C : Cmp T rk) {a b c d : Array Keyed} (h1 : T.Ar a c) (h2 : T.Ar b d) : T.Sim T.Ar (mergeLo' a b) (mergeLo' c d) := by
  rw [mergeLo'_eq, mergeLo'_eq]
  have e1 := h1.size
  have e2 := h2.size
  rw [e1, e2]
  repeat' (first
    | with_reducible refine sim_ite ?_ ?_
    | ((with_reducible refine sim_pure ?_); first | exact (show T.RM _ _ from ⟨trivial, by (repeat' first | with_reducible assumption | with_reducible apply Ar.app | with_reducible apply Ar.ext | with_reducible apply Ar.push | with_reducible apply Ar.one | with_reducible apply Ar.rev), rfl⟩) | exact (show T.RM _ _ from ⟨by show T.Ar _ _; (repeat' first | with_reducible assumption | with_reducible apply Ar.app | with_reducible apply Ar.ext | with_reducible apply Ar.push | with_reducible apply Ar.one | with_reducible apply Ar.rev), by (repeat' first | with_reducible assumption | with_reducible apply Ar.app | with_reducible apply Ar.ext | with_reducible apply Ar.push | with_reducible apply Ar.one | with_reducible apply Ar.rev), rfl⟩) | (show T.Ar _ _; (repeat' first | with_reducible assumption | with_reducible apply Ar.app | with_reducible apply Ar.ext | with_reducible apply Ar.push | with_reducible apply Ar.one | with_reducible apply Ar.rev); done))
    | ((with_reducible refine sim_bind (sim_elem h1) ?_); intro u v huv)
    | ((with_reducible refine sim_bind (sim_elem h2) ?_); intro u v huv)
    | ((with_reducible refine sim_bind (sim_lt C (by with_reducible assumption) (by with_reducible assumption)) ?_); rintro _ _ ⟨w, rfl, rfl⟩)
    | ((with_reducible refine sim_bind (sim_gallop C _ (by with_reducible assumption) (by with_reducible assumption) _ _ _) ?_); rintro w _ rfl; cases w)
    | ((with_reducible refine sim_bind (sim_gal _) ?_); rintro _ _ rfl)
    | ((with_reducible refine sim_bind sim_rule ?_); rintro _ _ rfl)
    | ((with_reducible refine sim_forM (by (repeat' first | with_reducible assumption | with_reducible apply Ar.app | with_reducible apply Ar.ext | with_reducible apply Ar.push | with_reducible apply Ar.one | with_reducible apply Ar.rev)) (fun x o o' g ho r r' => ?_) (fun o o' g ho => ?_) (fun r r' o o' g hr ho => ?_)))
    | ((with_reducible refine sim_bind sim_get ?_); rintro _ _ ⟨_, _, _, g, _, rfl, rfl⟩)
    | dsimp only
    | exact sim_unsup)
set_option maxHeartbeats 6000000 in
theorem sim_hi {rk : Nat → Nat} (C : Cmp T rk) {a b c d : Array Keyed} (h1 : T.Ar a c) (h2 : T.Ar b d) : T.Sim T.Ar (mergeHi' a b) (mergeHi' c d) := by
  rw [mergeHi'_eq, mergeHi'_eq]
  have e1 := h1.size
  have e2 := h2.size
  rw [e1, e2]
  repeat' (first
    | with_reducible refine sim_ite ?_ ?_
    | ((with_reducible refine sim_pure ?_); first | exact (show T.RH _ _ from ⟨trivial, rfl, rfl, by (repeat' first | with_reducible assumption | with_reducible apply Ar.app | with_reducible apply Ar.ext | with_reducible apply Ar.push | with_reducible apply Ar.one | with_reducible apply Ar.rev), rfl⟩) | exact (show T.RH _ _ from ⟨by show T.Ar _ _; (repeat' first | with_reducible assumption | with_reducible apply Ar.app | with_reducible apply Ar.ext | with_reducible apply Ar.push | with_reducible apply Ar.one | with_reducible apply Ar.rev), rfl, rfl, by (repeat' first | with_reducible assumption | with_reducible apply Ar.app | with_reducible apply Ar.ext | with_reducible apply Ar.push | with_reducible apply Ar.one | with_reducible apply Ar.rev), rfl⟩) | (show T.Ar _ _; (repeat' first | with_reducible assumption | with_reducible apply Ar.app | with_reducible apply Ar.ext | with_reducible apply Ar.push | with_reducible apply Ar.one | with_reducible apply Ar.rev); done))
    | ((with_reducible refine sim_bind (sim_elem h1) ?_); intro u v huv)
    | ((with_reducible refine sim_bind (sim_elem h2) ?_); intro u v huv)
    | ((with_reducible refine sim_bind (sim_lt C (by with_reducible assumption) (by with_reducible assumption)) ?_); rintro _ _ ⟨w, rfl, rfl⟩)
    | ((with_reducible refine sim_bind (sim_gallop C _ (by with_reducible assumption) (by with_reducible assumption) _ _ _) ?_); rintro w _ rfl; cases w)
    | ((with_reducible refine sim_bind (sim_gal _) ?_); rintro _ _ rfl)
    | ((with_reducible refine sim_bind sim_rule ?_); rintro _ _ rfl)
    | ((with_reducible refine sim_forH (by (repeat' first | with_reducible assumption | with_reducible apply Ar.app | with_reducible apply Ar.ext | with_reducible apply Ar.push | with_reducible apply Ar.one | with_reducible apply Ar.rev)) (fun x na nb o o' g ho r r' => ?_) (fun na nb o o' g ho => ?_) (fun r r' na nb o o' g hr ho => ?_)))
    | ((with_reducible refine sim_bind sim_get ?_); rintro _ _ ⟨_, _, _, g, _, rfl, rfl⟩)
    | dsimp only
    | exact sim_unsup)
end Two
end TW
set_option Elab.async false
set_option linter.all false
set_option maxRecDepth 100000
set_option maxHeartbeats 2000000
namespace TW
open PySem PyProof.Rows
open PySem.Sem (wp wp_pure' wp_bind' wp_mono wp_rule wp_unsupported)
namespace Two
variable {T : Two}
theorem sim_put {a b : Array Keyed} {q : Array (Nat × Nat × Nat)} {g : Nat} (h : T.Ar a b) : T.Sim Eq (set (SortSt.mk' T.ka a q g none) : StateT SortSt Sem PUnit) (set (SortSt.mk' T.kb b q g none) : StateT SortSt Sem PUnit) := sim_set ⟨a, b, q, g, h, rfl, rfl⟩
theorem sim_lay {c d : Array Keyed} (h : T.Ar c d) (j0 : Nat) : T.Sim Eq (modify fun s => setArr s (c.toList.zipIdx.foldl (fun x e => x.setIfInBounds (j0 + e.2) e.1) (arrOf s)) : StateT SortSt Sem PUnit) (modify fun s => setArr s (d.toList.zipIdx.foldl (fun x e => x.setIfInBounds (j0 + e.2) e.1) (arrOf s)) : StateT SortSt Sem PUnit) := sim_modify fun u v hS => by
  obtain ⟨a, b, q, g, h2, rfl, rfl⟩ := hS
  exact ⟨_, _, q, g, h2.lay h j0, rfl, rfl⟩
theorem sim_end {c d : Array Keyed} (h : T.Ar c d) (j0 : Nat) : T.Sim Eq (do
    modify fun s => setArr s (c.toList.zipIdx.foldl (fun x e => x.setIfInBounds (j0 + e.2) e.1) (arrOf s))
    let st ← get
    pure (failedOf st).isNone : StateT SortSt Sem Bool) (do
    modify fun s => setArr s (d.toList.zipIdx.foldl (fun x e => x.setIfInBounds (j0 + e.2) e.1) (arrOf s))
    let st ← get
    pure (failedOf st).isNone : StateT SortSt Sem Bool) := sim_bind (sim_lay h j0) fun _ _ _ => sim_bind sim_get fun u v hS => by
  obtain ⟨a, b, q, g, _, rfl, rfl⟩ := hS
  exact sim_pure rfl
theorem sim_at {rk : Nat → Nat} (C : Cmp T rk) (i : Nat) : T.Sim Eq (mergeAt' i) (mergeAt' i) := by
  rw [mergeAt'_eq]
  refine sim_bind sim_get ?_
  rintro _ _ ⟨a, b, q, g, hab, rfl, rfl⟩
  show T.Sim Eq (match (q[i]?, q[i + 1]?) with | (some (sa, na, power), some (sb, nb, _)) => _ | _ => _) (match (q[i]?, q[i + 1]?) with | (some (sa, na, power), some (sb, nb, _)) => _ | _ => _)
  cases q[i]? with
  | none => exact sim_unsup
  | some x =>
    cases q[i + 1]? with
    | none => exact sim_unsup
    | some y =>
      obtain ⟨sa, na, pw⟩ := x
      obtain ⟨sb, nb, pw'⟩ := y
      dsimp only
      refine sim_bind (sim_put hab) ?_
      rintro _ _ rfl
      refine sim_bind (sim_elem hab) fun u v huv => ?_
      refine sim_bind (sim_gallop C _ huv hab _ _ _) ?_
      rintro w _ rfl
      cases w with
      | none => exact sim_pure rfl
      | some k =>
        refine sim_ite (sim_pure rfl) ?_
        refine sim_bind (sim_elem hab) fun u v huv => ?_
        refine sim_bind (sim_gallop C _ huv hab _ _ _) ?_
        rintro w _ rfl
        cases w with
        | none => exact sim_pure rfl
        | some m =>
          refine sim_ite (sim_pure rfl) ?_
          refine sim_ite ?_ ?_
          · exact sim_bind (sim_lo C (hab.ext _ _) (hab.ext _ _)) fun c d hcd => sim_end hcd _
          · exact sim_bind (sim_hi C (hab.ext _ _) (hab.ext _ _)) fun c d hcd => sim_end hcd _
theorem pend_mk {k : SortKind} {a : Array Keyed} {q : Array (Nat × Nat × Nat)} {g : Nat} {e : Option Value} : pendingOf (SortSt.mk' k a q g e) = q := rfl
theorem sim_all {rk : Nat → Nat} (C : Cmp T rk) : T.Sim Eq sortRuns' sortRuns' := by
  rw [sortRuns'_eq]
  refine sim_bind sim_get ?_
  rintro _ _ ⟨a, b, q, g, hab, rfl, rfl⟩
  have e : (arrOf (SortSt.mk' T.ka a q g none)).size = (arrOf (SortSt.mk' T.kb b q g none)).size := hab.size
  rw [e]
  generalize (arrOf (SortSt.mk' T.kb b q g none)).size = sz
  repeat' (first
    | with_reducible refine sim_ite ?_ ?_
    | ((with_reducible refine sim_pure ?_); first | rfl | (show _ = _; rfl))
    | with_reducible refine sim_forE (fun x c => ?_) (fun c => ?_)
    | ((with_reducible refine sim_bind (sim_run C _ _) ?_); rintro w _ rfl; cases w)
    | ((with_reducible refine sim_bind (sim_bin C _ _ _) ?_); rintro w _ rfl)
    | ((with_reducible refine sim_bind (sim_at C _) ?_); rintro w _ rfl)
    | ((with_reducible refine sim_bind sim_rule ?_); rintro _ _ rfl)
    | ((refine sim_bind (sim_modify (fun u v hS => by obtain ⟨a, b, q, g, h, rfl, rfl⟩ := hS; exact ⟨a, b, _, g, h, rfl, rfl⟩)) ?_); rintro _ _ rfl)
    | ((with_reducible refine sim_bind sim_get ?_); rintro _ _ ⟨_, _, q, g, _, rfl, rfl⟩; simp only [pend_mk])
    | dsimp only
    | split)
end Two
end TW
set_option Elab.async false
set_option linter.all false
set_option maxRecDepth 100000
set_option maxHeartbeats 2000000
namespace TW
open PySem PyProof.Rows
open PySem.Sem (wp wp_pure' wp_bind' wp_mono wp_rule wp_unsupported)
def nones (m : Nat) : Obj := { cls := .type "list", dict := none, data := .seq (Array.replicate m .none) 0 }
def mkH (n : Nat) (rk : Nat → Nat) : Heap := { objs := ((List.range n).map fun k => nones (rk k)).toArray }
theorem mkH_get {n : Nat} {rk : Nat → Nat} {i : Nat} (h : i < n) : (mkH n rk).get? i = some (nones (rk i)) := by
  have e : (mkH n rk).objs[i]? = some (nones (rk i)) := by simp [mkH, h]
  unfold Heap.get?
  rw [e]
  rfl
section
variable {M : Model} {Γ : Ctx} {E : Value → Pos → Shared → Prop} {s : Shared}
theorem wp_items {a : Addr} {o : Obj} {xs : Array Value} {n : Nat} {Q : Array Value → Pos → Shared → Prop} {p : Pos} (ho : s.heap.get? a = some o) (hd : o.data = .seq xs n) : wp M Γ (Builtin.List.listItems (.ref a)) Q E p s = Q xs p s := by
  unfold Builtin.List.listItems seqItems?
  rw [wp_bind', wp_bind']
  unfold load
  rw [Sem.wp_load, ho]
  apply propext
  constructor
  · rintro ⟨o', e, h⟩
    cases e
    rw [Sem.wp_pure, hd] at h
    rw [wp_pure'] at h
    simpa using h
  · intro h
    refine ⟨o, rfl, ?_⟩
    rw [Sem.wp_pure, hd, wp_pure']
    simpa using h
theorem wp_eqN {Q : Bool → Pos → Shared → Prop} {p : Pos} : wp M Γ (eqBool .none .none) Q E p s = Q true p s := by
  unfold eqBool
  rw [Sem.wp_holding]
  have e : ((Value.none == Value.none) = true) := by decide
  rw [if_pos e]
  rw [wp_bind']
  unfold rule
  rw [wp_rule]
  show wp M Γ (Sem.pure ()) _ E p s = _
  rw [Sem.wp_pure, wp_pure']
theorem wp_skip {body : (Value × Value) × Nat → Option Bool × Unit → Sem (ForInStep (Option Bool × Unit))} (hb : ∀ i Q p, wp M Γ (body ((.none, .none), i) (none, ())) Q E p s = Q (.yield (none, ())) p s) : ∀ (l : List ((Value × Value) × Nat)), (∀ x ∈ l, x.1 = (.none, .none)) → ∀ Q p, wp M Γ (forIn l (none, ()) body) Q E p s = Q (none, ()) p s
  | [], _, Q, p => by rw [List.forIn_nil, wp_pure']
  | ((u, v), i) :: l, h, Q, p => by
    have e := h _ List.mem_cons_self
    cases e
    rw [List.forIn_cons, wp_bind', hb]
    exact wp_skip hb l (fun x hx => h x (List.mem_cons_of_mem _ hx)) Q p
theorem wp_keyN {n : Nat} {rk : Nat → Nat} {b : Bool} {i j : Nat} {Q : Bool → Pos → Shared → Prop} {p : Pos} (hs : s.heap = mkH n rk) (hi : i < n) (hj : j < n) : wp M Γ (keyLt' (tuples' b) (.ref i) (.ref j)) Q E p s = Q (decide (rk i < rk j)) p s := by
  rw [kat_lt_eq, wp_bind', wp_items (o := nones (rk i)) (n := 0) (by rw [hs]; exact mkH_get hi) rfl, wp_bind', wp_items (o := nones (rk j)) (n := 0) (by rw [hs]; exact mkH_get hj) rfl, wp_bind']
  rw [wp_skip (fun i Q p => ?_) _ (fun x hx => ?_)]
  · simp
  · simp [wp_eqN]
  · obtain ⟨⟨u, v⟩, k⟩ := x
    have h1 := List.fst_mem_of_mem_zipIdx hx
    have h2 := (List.of_mem_zip h1)
    simp at h2
    show (u, v) = _
    rw [h2.1.2, h2.2.2]
end
def rkOf (n : Nat) (rk : Nat → Nat) (v : Value) : Option Nat := match v with
  | .ref i => if i < n then some (rk i) else none
  | _ => none
@[reducible] def rkKind (n : Nat) (rk : Nat → Nat) : KeyKind where
  α := Nat
  blt a b := decide (a < b)
  irrefl a := by simp
  trans a b c h1 h2 := by simp at *; omega
  negTrans a b c h := by simp at *; omega
  total a b h1 h2 := by simp at *; omega
  keyOf := rkOf n rk
  dflt := 0
theorem rkOf_some {n : Nat} {rk : Nat → Nat} {v : Value} {a : Nat} (h : rkOf n rk v = some a) : ∃ i, i < n ∧ v = .ref i ∧ a = rk i := by
  unfold rkOf at h
  split at h
  · split at h
    · cases h; exact ⟨_, ‹_›, rfl, rfl⟩
    · cases h
  · cases h
theorem rk_ltAt {prog : Program} {w : World} {n : Nat} {rk : Nat → Nat} {s : Shared} {b : Bool} (hs : s.heap = mkH n rk) : G.LtAt prog w s (rkKind n rk) (tuples' b) := fun A E x y c d Q hx hy hq Γ p hΓ => by
  obtain ⟨i, hi, rfl, rfl⟩ := rkOf_some hx
  obtain ⟨j, hj, rfl, rfl⟩ := rkOf_some hy
  rw [wp_keyN hs hi hj]
  exact hq
theorem sort_any {prog : Program} {w : World} {A : Around} {E : Value → Shared → Prop} {s : Shared} {vs : List Value} {kd : SortKind} {rk : Nat → Nat} (h2 : 2 ≤ vs.length)
    (hc : ∀ i j (hi : i < vs.length) (hj : j < vs.length), wpAny (model prog w) A (keyLt' kd vs[i] vs[j]) (fun b s' => s' = s ∧ b = decide (rk i < rk j)) (fun _ _ => False) s) :
    wpAny (model prog w) A (sortRuns'.run (SortSt.mk' kd (pairsOf vs) #[] 7 none)) (fun r s' => s' = s ∧ failedOf r.2 = none ∧ ∃ p : List Nat, p.Perm (List.range vs.length) ∧ p.Pairwise (fun i j => rk i ≤ rk j) ∧ (arrOf r.2).toList = p.map fun k => (vs.getD k .none, vs.getD k .none)) E s := by
  intro Γ p hΓ
  let n := vs.length
  let nm : Nat → Nat := fun k => if k < n then k else 0
  have hnm : ∀ k, nm k < n := fun k => by
    show (if k < n then k else 0) < n
    split
    · assumption
    · show 0 < vs.length; omega
  have hn2 : ∀ k, k < n → nm k = k := fun k hk => if_pos hk
  let s2 : Shared := { s with heap := mkH n rk }
  let T : Two := ⟨model prog w, model prog w, Γ, Γ, s, s2, n, fun k => (vs.getD (nm k) .none, vs.getD (nm k) .none), fun k => (.ref (nm k), .ref (nm k)), kd, tuples' true⟩
  have C : Two.Cmp T (fun k => rk (nm k)) := by
    refine ⟨fun i j q => ?_, fun i j q Q E' hq => ?_⟩
    · have hi := hnm i
      have hj := hnm j
      have := hc (nm i) (nm j) hi hj Γ q hΓ
      show wp (model prog w) Γ (keyLt' kd (vs.getD (nm i) .none) (vs.getD (nm j) .none)) _ _ q s
      rw [List.getD_eq_getElem?_getD, List.getD_eq_getElem?_getD, List.getElem?_eq_getElem hi, List.getElem?_eq_getElem hj]
      exact this
    · have hq : wp (model prog w) Γ (keyLt' (tuples' true) (.ref (nm i)) (.ref (nm j))) Q E' q s2 := hq
      rw [wp_keyN rfl (hnm i) (hnm j)] at hq
      exact ⟨q, hq⟩
  let a0 : Array Keyed := ((List.range n).map fun k => ((Value.ref k, Value.ref k) : Keyed)).toArray
  have hz : a0.size = n := by simp [a0]
  have r2 := G.wpS_sortRunsSt (prog := prog) (w := w) (A := A) (E := fun _ _ => False) (s := s2) (κ := rkKind n rk) (kd := tuples' true) (a₀ := a0) (st := SortSt.mk' (tuples' true) a0 #[] 7 none)
    (Q := fun _ st' => (arrOf st').Perm a0 ∧ failedOf st' = none ∧ SortedToK (rkKind n rk) (arrOf st') a0.size) (rk_ltAt rfl) (fun q hq => by
      obtain ⟨k, hk, rfl⟩ := List.mem_map.mp (by simpa [a0] using hq : q ∈ (List.range n).map fun k => ((Value.ref k, Value.ref k) : Keyed))
      exact ⟨rk k, by show (if k < n then some (rk k) else none) = _; rw [if_pos (List.mem_range.mp hk)]⟩) ⟨Array.Perm.refl _, rfl, rfl⟩ rfl (Stable.refl _) (by rw [hz]; exact h2) (fun st' b1 b2 b3 _ => ⟨b1, b2, b3⟩)
  have r3 := r2 Γ p hΓ
  have hS : T.S (SortSt.mk' kd (pairsOf vs) #[] 7 none) (SortSt.mk' (tuples' true) a0 #[] 7 none) := by
    refine ⟨pairsOf vs, a0, #[], 7, ⟨(List.range n).toArray, ?_, ?_⟩, rfl, rfl⟩
    · apply Array.ext'
      rw [pairsOf_toList]
      show vs.zip vs = ((List.range n).toArray.map fun k => ((vs.getD (nm k) .none, vs.getD (nm k) .none) : Keyed)).toList
      rw [Array.toList_map]
      apply List.ext_getElem
      · simp [n]
      · intro i h1 h3
        have hi : i < vs.length := by simpa using h1
        simp [hn2 i hi, List.getElem?_eq_getElem hi]
    · apply Array.ext'
      show (List.range n).map (fun k => ((Value.ref k, Value.ref k) : Keyed)) = ((List.range n).toArray.map fun k => ((Value.ref (nm k), Value.ref (nm k)) : Keyed)).toList
      rw [Array.toList_map]
      exact List.map_congr_left fun k hk => by rw [hn2 k (List.mem_range.mp hk)]
  have r4 := Two.sim_all C _ _ hS _ p p r3
  refine wp_mono _ _ _ (fun r q s' hr => ?_) (fun _ _ _ e => e.elim) _ _ r4
  obtain ⟨rfl, r', q', _, hS', _, b1, b2, b3⟩ := hr
  obtain ⟨a, b, q1, g, ⟨pp, rfl, rfl⟩, e1, e2⟩ := hS'
  rw [e2] at b1 b3
  have b1 : (pp.map fun k => ((Value.ref (nm k), Value.ref (nm k)) : Keyed)).Perm a0 := b1
  have b3 : SortedToK (rkKind n rk) (pp.map fun k => ((Value.ref (nm k), Value.ref (nm k)) : Keyed)) a0.size := b3
  have hpp : pp.size = n := by have := b1.size_eq; rwa [Array.size_map, hz] at this
  refine ⟨rfl, by rw [e1], pp.toList.map nm, ?_, ?_, ?_⟩
  · have b4 := Array.perm_iff_toList_perm.mp b1
    have b5 := b4.map fun e : Keyed => match e.1 with | .ref i => i | _ => 0
    have e3 : ((pp.map fun k => ((Value.ref (nm k), Value.ref (nm k)) : Keyed)).toList.map fun e : Keyed => match e.1 with | .ref i => i | _ => 0) = pp.toList.map nm := by
      rw [Array.toList_map, List.map_map]; rfl
    have e4 : (a0.toList.map fun e : Keyed => match e.1 with | .ref i => i | _ => 0) = List.range n := by
      show (((List.range n).map fun k => ((Value.ref k, Value.ref k) : Keyed)).map _) = _
      rw [List.map_map]
      exact (List.map_congr_left fun k _ => rfl).trans (List.map_id _)
    rw [e3, e4] at b5
    exact b5
  · rw [List.pairwise_iff_getElem]
    intro i j hi hj hij
    rw [List.length_map, Array.length_toList] at hi hj
    have b6 := b3 i j (Nat.le_of_lt hij) (by rw [hz]; omega)
    have kk : ∀ k, (hk : k < pp.size) → KK (rkKind n rk) (pp.map fun k => ((Value.ref (nm k), Value.ref (nm k)) : Keyed)) k = rk (nm pp[k]) := fun k hk => by
      unfold KK
      rw [Array.getElem?_map, Array.getElem?_eq_getElem hk]
      show ((if nm pp[k] < n then some (rk (nm pp[k])) else none : Option Nat)).getD 0 = _
      rw [if_pos (hnm _)]; rfl
    rw [kk i hi, kk j hj] at b6
    have b7 : (decide (rk (nm pp[j]) < rk (nm pp[i]))) = false := b6
    rw [List.getElem_map, List.getElem_map, Array.getElem_toList, Array.getElem_toList]
    have := of_decide_eq_false b7
    omega
  · rw [e1]
    show (pp.map fun k => ((vs.getD (nm k) .none, vs.getD (nm k) .none) : Keyed)).toList = _
    rw [Array.toList_map, List.map_map]
    rfl
end TW
set_option Elab.async false
set_option linter.all false
set_option maxRecDepth 100000
set_option maxHeartbeats 2000000
namespace TW
open PySem PySem.Spec PySem.Calls PyProof.Rows PyProof.Rows.G DS
section
variable {prog : Program} {w : World} {A : Around} {E : Value → Shared → Prop} {s : Shared}
theorem katlex_of {Q : Bool → Shared → Prop} : ∀ {vs ws : List Value} {r : Bool}, CmpL A s .Lt vs ws r → ∀ (fin : Bool) (k i : Nat), fin = decide (vs.length + k < ws.length + k) → Q r s → PySem.W.KatLex prog w A false fin Q (vs.zip ws) i s := by
  intro vs ws r h
  induction h with
  | @fin vs ws hn =>
    intro fin k i hf hq
    have e : vs.zip ws = [] := by rcases hn with rfl | rfl <;> simp
    rw [e]
    have : fin = szB .Lt vs.length ws.length := by
      rw [hf]
      show _ = decide (vs.length < ws.length)
      exact decide_eq_decide.mpr (by omega)
    rw [this]
    exact PySem.W.kat_nil hq
  | @eq v u vs ws b he _ ih =>
    intro fin k i hf hq
    rw [List.zip_cons_cons]
    exact PySem.W.kat_cons (he prog w _ _ (PySem.W.kat_yes (ih fin (k + 1) (i + 1) (by rw [hf, List.length_cons, List.length_cons]; exact decide_eq_decide.mpr (by omega)) hq)))
  | @ne v u vs ws b he hr =>
    intro fin k i hf hq
    rw [List.zip_cons_cons]
    refine PySem.W.kat_cons (he prog w _ _ (PySem.W.kat_no ?_))
    rw [Bool.false_and]
    exact PySem.W.kat_one v u (hr prog w _ _ hq)
theorem key_tup {a b : Addr} {o o' : Obj} {xs ys : Array Value} {n m : Nat} {r : Bool} {Q : Bool → Shared → Prop} (ho : s.heap.get? a = some o) (hd : o.data = .seq xs n) (ho' : s.heap.get? b = some o') (hd' : o'.data = .seq ys m)
    (hc : CmpL A s .Lt xs.toList ys.toList r) (h : Q r s) : wpAny (model prog w) A (keyLt' (tuples' false) (.ref a) (.ref b)) Q E s :=
  PySem.W.kat_lt ho hd ho' hd' (katlex_of hc _ 0 0 (by rw [Array.length_toList, Array.length_toList]; rfl) h)
def endsK (vs : List Value) (rk : Nat → Nat) (R : List Value → Prop) : Prop := ∀ p : List Nat, p.Perm (List.range vs.length) → p.Pairwise (fun i j => rk i ≤ rk j) → R (p.map fun k => vs.getD k .none)
theorem sort_at {kd : SortKind} {l : Addr} {vs : List Value} {n : Nat} {rk : Nat → Nat} {P : Fin → Shared → Prop} (ho : s.heap.get? l = some (seqObj "list" vs.toArray n)) (hz : vs.length ≤ sizeLine)
    (hk : 2 ≤ vs.length → ∀ (s' : Shared) {Q : SortKind → Shared → Prop}, KeepsTups s.heap s'.heap → Q kd s' → wpAny (model prog w) A (keyKind' vs.toArray) Q E s')
    (hc : ∀ s' : Shared, KeepsTups s.heap s'.heap → ∀ i j (hi : i < vs.length) (hj : j < vs.length), wpAny (model prog w) A (keyLt' kd vs[i] vs[j]) (fun b t => t = s' ∧ b = decide (rk i < rk j)) (fun _ _ => False) s')
    (h : endsK vs rk fun out => P (.done (.ret .none)) { s with heap := sortedHeap s.heap l vs out.toArray }) : wpAny (model prog w) A (Builtin.«list.sort» ⟨[.ref l], []⟩) P E s := by
  have hz' : vs.length ≤ 2 ^ 24 := by rw [sizeLine_eq] at hz; exact hz
  have kp := keeps_sort6 (vs := vs) ho
  rw [list_sort_plain]
  refine wpAny_bind (listItems_at ho rfl (wpAny_bind (listUpdate_at ho rfl ?_)))
  obtain ⟨ep, g1⟩ : ∃ ep, (s.heap.update l (Obj.mapSeq fun _ => #[])).get? l = some (seqObj "list" #[] ep) := ⟨_, get?_update_seq ho fun _ => #[]⟩
  refine wpAny_bind (seqEpoch_at g1 rfl (wpAny_bind (wpAny_newTuple (wpAny_bind (wpAny_newList (wpAny_holding ?_))))))
  have hl : l < s.heap.objs.size := Heap.lt_size ho
  have g2 : (sortHeap6 s.heap l vs).get? l = some (seqObj "list" #[] ep) := by
    unfold sortHeap6
    rw [Heap.get?_push_ne, Heap.get?_push_ne]
    · exact g1
    · rw [Heap.size_update]; exact Nat.ne_of_lt hl
    · rw [size_push', Heap.size_update]; exact Nat.ne_of_lt (Nat.lt_succ_of_lt hl)
  show wpAny _ _ _ P E { s with heap := sortHeap6 s.heap l vs }
  have fin : ∀ out : List Value, out.length = vs.length → P (.done (.ret .none)) { s with heap := sortedHeap s.heap l vs out.toArray } → ∀ st : SortSt, failedOf st = none → ((arrOf st).map (·.2)) = out.toArray → wpAny (model prog w) A (do
      let touched := (← seqEpoch l) != ep
      Builtin.List.listUpdate (.ref l) fun _ => (arrOf st).map (·.2)
      if let some e := failedOf st then rule "list.sort.comparison-raised"; throw e
      if touched then rule "list.sort.modified"; raiseError "ValueError" "list modified during sort"
      ret .none) P E { s with heap := sortHeap6 s.heap l vs } := fun out hlen hp st hf hm => by
    refine wpAny_bind (seqEpoch_at g2 rfl (wpAny_bind (listUpdate_at g2 rfl ?_ (hsz2 := ?_))))
    · rw [hf, hm]
      simp only [bne_self_eq_false, Bool.false_eq_true, if_false]
      exact wpAny_pure hp
    · rw [hm, List.size_toArray, hlen]; omega
  dsimp only
  by_cases h2 : 2 ≤ vs.length
  · have h2' : ¬ vs.toArray.size < 2 := by rw [List.size_toArray]; omega
    rw [if_neg h2', if_neg h2']
    refine wpAny_bind (hk h2 _ kp ?_)
    refine wpAny_bind (wpAny_mono (sort_any (E := E) (rk := rk) h2 (hc _ kp)) ?_ fun _ _ e => e)
    rintro ⟨_, st⟩ s' ⟨rfl, hf, p, hp, hs, ha⟩
    refine fin (p.map fun k => vs.getD k .none) (by rw [List.length_map, hp.length_eq, List.length_range]) (h p hp hs) st hf ?_
    apply Array.ext'
    rw [Array.toList_map, ha, List.map_map]
    rfl
  · have h2' : vs.toArray.size < 2 := by rw [List.size_toArray]; omega
    rw [if_pos h2', if_pos h2']
    refine wpAny_bind (wpAny_pure ?_)
    rw [StateT.run_pure]
    refine wpAny_bind (wpAny_pure ?_)
    have e : (List.range vs.length).map (fun k => vs.getD k .none) = vs := by
      apply List.ext_getElem
      · simp
      · intro i h1 h3
        simp [h3]
    have q := h (List.range vs.length) (List.Perm.refl _) (by
      rw [List.pairwise_iff_getElem]
      intro i j hi hj hij
      rw [List.length_range] at hi hj
      omega)
    rw [e] at q
    refine fin vs rfl q _ rfl ?_
    apply Array.ext'
    rw [Array.toList_map]
    show (pairsOf vs).toList.map (·.2) = vs
    rw [pairsOf_toList]
    exact List.map_snd_zip (Nat.le_refl _)
end
end TW
set_option Elab.async false
set_option linter.all false
set_option maxRecDepth 100000
set_option maxHeartbeats 2000000
namespace TW
open PySem PySem.Spec PySem.Calls PyProof.Rows PyProof.Rows.G DS L2
mutual
theorem keepR {h h' : Heap} (k : KeepsTups h h') : ∀ (d : PyData) (v : Value) (as : List Addr), DL.noList d = true → Reads h v d as → Reads h' v d as
  | .none, _, _, _, r => by cases r; exact .none
  | .bool _, _, _, _, r => by cases r; exact .bool _
  | .int _, _, _, _, r => by cases r; exact .int _ _
  | .str _, _, _, _, r => by cases r; exact .str _ _
  | .list _, _, _, n, _ => by cases n
  | .dict _, _, _, n, _ => by cases n
  | .tuple xs, _, _, n, r => by
    cases r with
    | tuple o1 t1 d1 q1 => exact .tuple (k _ _ o1 t1) t1 d1 (keepRs k xs _ _ n q1)
theorem keepRs {h h' : Heap} (k : KeepsTups h h') : ∀ (ds : List PyData) (vs : List Value) (as : List Addr), DL.noListAll ds = true → ReadsAll h vs ds as → ReadsAll h' vs ds as
  | [], _, _, _, r => by cases r; exact .nil
  | d :: ds, _, _, n, r => by
    have n : DL.noList d = true ∧ DL.noListAll ds = true := by simpa [DL.noListAll] using n
    cases r with
    | cons a b => exact .cons (keepR k d _ _ n.1 a) (keepRs k ds _ _ n.2 b)
end
def tt : PyData → Bool
  | .tuple (.tuple _ :: _) => true
  | _ => false
theorem firsts_tt {h : Heap} : ∀ {vs : List Value} {ds : List PyData} {as : List Addr}, ReadsAll h vs ds as → ds.all tt = true → ∃ fs, PySem.W.KatTups h vs fs ∧ fs.length = vs.length ∧ ∀ f ∈ fs, ∃ (a : Addr) (o : Obj), f = .ref a ∧ h.get? a = some o ∧ o.cls = .type "tuple"
  | _, [], _, r, _ => by cases r; exact ⟨[], PySem.W.KatTups.nil, rfl, fun f hf => by cases hf⟩
  | _, d :: ds, _, r, ha => by
    cases r with
    | cons q1 q2 =>
      rw [List.all_cons, Bool.and_eq_true] at ha
      obtain ⟨fs, k1, k2, k3⟩ := firsts_tt q2 ha.2
      have h1 := ha.1
      unfold tt at h1
      split at h1
      · cases q1 with
        | @tuple a0 o0 vs0 n0 xs0 as0 o1 t1 d1 q3 =>
          generalize hv : vs0.toList = L at q3
          cases q3 with
          | cons q4 q5 =>
            cases q4 with
            | @tuple a2 o2' vs2 n2 xs2 as2 o2 t2 d2 q6 =>
              refine ⟨.ref a2 :: fs, PySem.W.KatTups.cons o1 t1 d1 (f := .ref a2) ?_ k1, by rw [List.length_cons, List.length_cons, k2], fun f hf => ?_⟩
              · rw [← Array.getElem?_toList, hv]; rfl
              · rcases List.mem_cons.mp hf with rfl | hf
                · exact ⟨_, _, rfl, o2, t2⟩
                · exact k3 f hf
      · cases h1
section
variable {X : Cx}
def rSortN (K : PySem.W.Frag) : List V → Hp → VK → Prop := fun vs H Q => ∃ (a : Addr) (xs : List V) (ds : List PyData) (rk : Nat → Nat), vs = [V.ref a] ∧ SqL K H a xs ∧ DpAll K H xs ds ∧ (DL.noListAll ds = true ∧ ds.all tt = true ∧ ds.length ≤ 1000) ∧
  (∀ i j x y, ds[i]? = some x → ds[j]? = some y → cmpD .Lt 3 x y = some (decide (rk i < rk j))) ∧
  ∀ (p : List Nat) (q : Addr), p.Perm (List.range ds.length) → p.Pairwise (fun i j => rk i ≤ rk j) → H q = none → Q (.ref q) (upd H q (.lst (p.map fun k => xs.getD k .non)))
theorem vals_len : ∀ {xs : List V} {us : List Value}, Vals xs us → xs.length = us.length
  | _, _, .nil => rfl
  | _, _, .cons _ b => congrArg (· + 1) (vals_len b)
theorem vals_pick : ∀ {xs : List V} {us : List Value} (p : List Nat), Vals xs us → Vals (p.map fun k => xs.getD k .non) (p.map fun k => us.getD k .none)
  | _, _, [], _ => .nil
  | xs, us, k :: p, r => by
    refine .cons ?_ (vals_pick p r)
    show L2.RelV (xs.getD k .non) (us.getD k .none)
    rw [List.getD_eq_getElem?_getD, List.getD_eq_getElem?_getD]
    cases e : us[k]? with
    | some u =>
      obtain ⟨x, h1, h2⟩ := vals_get r e
      rw [h1]; exact h2
    | none =>
      have : xs[k]? = none := List.getElem?_eq_none (by have := List.getElem?_eq_none_iff.mp e; rw [vals_len r]; exact this)
      rw [this]; exact rfl
end
end TW
set_option Elab.async false
set_option linter.all false
set_option maxRecDepth 100000
set_option maxHeartbeats 400000
namespace DL
open PySem L2
def sortNK (ds : List PyData) (Q : List PyData → Prop) : Prop := ∃ (xs : List PyData) (rk : Nat → Nat), ds = [.list xs] ∧ (noListAll xs = true ∧ xs.all TW.tt = true ∧ xs.length ≤ 1000) ∧
  (∀ i j x y, xs[i]? = some x → xs[j]? = some y → DS.cmpD .Lt 3 x y = some (decide (rk i < rk j))) ∧
  ∀ p : List Nat, p.Perm (List.range xs.length) → p.Pairwise (fun i j => rk i ≤ rk j) → Q (p.map fun k => xs.getD k .none)
def fSortN (fs : Env → Pp (List PyData)) : Env → Pp (List PyData) := fun ρ Q => fs ρ fun ds => sortNK ds Q
section
variable {W : Wd} {fs : Env → Pp (List PyData)}
end
section
variable {κ : Kx} {e : Expr} {fs : Env → Pp (List PyData)} {pos p : Pos}
end
section
variable {fs : Env → Pp (List PyData)} {ρ : Env}
@[simp] theorem s_fSortN {Q : List PyData → Prop} : fSortN fs ρ Q = fs ρ fun ds => sortNK ds Q := rfl
end
end DL
set_option Elab.async false
set_option linter.all false
set_option maxRecDepth 100000
set_option maxHeartbeats 400000
namespace DL
open PySem L2
section
variable {W : Wd}
structure Cy (W : Wd) (Hr Hs : Hp) (is : List Nat) (σ0 : St) (D : Ends) (E : En) : Prop where
  nx : ∀ σ ρ H' Hs', E.nx ρ → G W Hr H' Hs' → ER W Hs' σ ρ → Same Hs Hs' → L2.wipe σ is = L2.wipe σ0 is → D.nx σ H'
  rt : ∀ d v H' Hs', E.rt d → G W Hr H' Hs' → Same Hs Hs' → CRel W Hs' v d → D.rt v H'
  bk : ∀ σ ρ H' Hs', E.bk ρ → G W Hr H' Hs' → ER W Hs' σ ρ → Same Hs Hs' → L2.wipe σ is = L2.wipe σ0 is → D.bk σ H'
  ct : ∀ σ ρ H' Hs', E.ct ρ → G W Hr H' Hs' → ER W Hs' σ ρ → Same Hs Hs' → L2.wipe σ is = L2.wipe σ0 is → D.ct σ H'
theorem Cy.mono {Hr Hs Hs1 : Hp} {is : List Nat} {σ0 σ1 : St} {D : Ends} {E : En} (s : Same Hs Hs1) (hw : L2.wipe σ1 is = L2.wipe σ0 is) (c : Cy W Hr Hs is σ0 D E) : Cy W Hr Hs1 is σ1 D E :=
  ⟨fun σ ρ H' Hs' e g er q w => c.nx σ ρ H' Hs' e g er (s.trans q) (w.trans hw), fun d v H' Hs' e r q => c.rt d v H' Hs' e r (s.trans q), fun σ ρ H' Hs' e g er q w => c.bk σ ρ H' Hs' e g er (s.trans q) (w.trans hw), fun σ ρ H' Hs' e g er q w => c.ct σ ρ H' Hs' e g er (s.trans q) (w.trans hw)⟩
def RY (W : Wd) (is : List Nat) (t : TS) (f : Sm) : Prop := ∀ D σ H Hs Hr ρ E, G W Hr H Hs → ER W Hs σ ρ → f E ρ → Cy W Hr Hs is σ D E → t D σ H
variable {is : List Nat}
def sIfY (fc : Env → Pp Bool) (f g : Sm) : Sm := fun E ρ => fc ρ fun b => if b = true then f E ρ else g E ρ
def sRetY (fe : Env → Pp PyData) : Sm := fun E ρ => fe ρ E.rt
def forY (fg : PyData → Env → Pp Env) (fb : Sm) (rt : PyData → Prop) (nxt : Prop) : List PyData → Env → Prop
  | [], _ => nxt
  | d :: r, ρ => fg d ρ fun ρ' => fb ⟨forY fg fb rt nxt r, rt, fun _ => nxt, forY fg fb rt nxt r, fun _ => False⟩ ρ'
def sForY (is : List Nat) (it : Env → Pp (List PyData)) (fg : PyData → Env → Pp Env) (fb : Sm) : Sm := fun E ρ => it (frzAll ρ) fun ds => forY fg fb E.rt (E.nx (wipeE ρ is)) ds (frzAll ρ)
end
def XY (κ : Kx) (is : List Nat) (s : Stmt) (f : Sm) : Prop := ∃ t, (∀ X, Cn κ X → PS X s t) ∧ ∀ d Pt, κ.fam d Pt → RY (κ.W d Pt) is t f
def XYs (κ : Kx) (is : List Nat) (s : List Stmt) (f : Sm) : Prop := ∃ t, (∀ X, Cn κ X → PSs X s t) ∧ ∀ d Pt, κ.fam d Pt → RY (κ.W d Pt) is t f
section
variable {κ : Kx} {is : List Nat} {st : Stmt} {rest : List Stmt} {f g : Sm} {a c tg : Expr} {fa : Env → Pp PyData} {pos : Pos}
variable {js : List Nat} {fg : PyData → Env → Pp Env}
end
section
variable {E : En} {ρ : Env} {f g fb : Sm} {f1 : Env → Pp Bool} {fa : Env → Pp PyData} {is : List Nat} {it : Env → Pp (List PyData)} {fg : PyData → Env → Pp Env}
@[simp] theorem s_sIfY : sIfY f1 f g E ρ = f1 ρ fun b => if b = true then f E ρ else g E ρ := rfl
@[simp] theorem s_sRetY : sRetY fa E ρ = fa ρ E.rt := rfl
@[simp] theorem s_sForY : sForY is it fg fb E ρ = it (frzAll ρ) fun ds => forY fg fb E.rt (E.nx (wipeE ρ is)) ds (frzAll ρ) := rfl
end
end DL
set_option Elab.async false
set_option linter.all false
set_option maxRecDepth 100000
set_option maxHeartbeats 400000
namespace L2
open PySem PySem.Spec PyProof.Rows
def rIndexD (K : PySem.W.Frag) : V → List V → Hp → VK → Prop := fun x xs H Q => ∃ (ds : List PyData) (e : PyData) (y : V) (j : Nat), xs = [y] ∧ ds.length ≤ sizeLine ∧ Dp K H x (.list ds) ∧ Dp K H y e ∧ SeqAt.shaped (.list ds) = true ∧ SeqAt.shaped e = true ∧ ds.findIdx? (fun z => PyData.eqv z e) = some j ∧ Q (.int (j : Nat)) H
end L2
namespace DL
open PySem L2
section
variable {κ : Kx} {a b : Expr} {fa fb : Env → Pp PyData}
def eIndexD (fa fb : Env → Pp PyData) : Env → Pp PyData := fun ρ => bnd (fa ρ) fun a => match a with
  | .list xs => bnd (fb ρ) fun b => fun Q => (SeqAt.shaped (.list xs) = true ∧ SeqAt.shaped b = true) ∧ optK (xs.findIdx? fun z => PyData.eqv z b) fun j => Q (.int (j : Int))
  | _ => fail
def ixKD (a : PyData) (k : List PyData → Prop) : Prop := match a with | .list xs => k xs | _ => False
@[simp] theorem s_ixKD {xs : List PyData} {k : List PyData → Prop} : ixKD (.list xs) k = k xs := rfl
@[simp] theorem s_eIndexD {ρ : Env} {Q : PyData → Prop} : eIndexD fa fb ρ Q = fa ρ fun a => ixKD a fun xs => fb ρ fun b => (SeqAt.shaped (.list xs) = true ∧ SeqAt.shaped b = true) ∧ optK (xs.findIdx? fun z => PyData.eqv z b) fun j => Q (.int (j : Int)) := by
  show (fa ρ fun a => (match a with
  | .list xs => bnd (fb ρ) fun b => fun Q => (SeqAt.shaped (.list xs) = true ∧ SeqAt.shaped b = true) ∧ optK (xs.findIdx? fun z => PyData.eqv z b) fun j => Q (.int (j : Int))
  | _ => fail : Pp PyData) Q) = _
  exact congrArg (fa ρ) (funext fun a => by cases a <;> rfl)
end
end DL
set_option Elab.async false
set_option linter.all false
set_option maxRecDepth 100000
set_option maxHeartbeats 400000
namespace L2
open PySem PySem.Spec PyProof.Rows
section
variable {X : Cx} {e : Expr} {es : List Expr} {t : St → Hp → Prop} {pos p : Pos}
end
end L2
set_option Elab.async false
set_option linter.all false
set_option maxRecDepth 100000
set_option maxHeartbeats 400000
namespace DL
open PySem PySem.Spec PyProof.Rows L2
structure PassR (X : Cx) (C : Addr) (R : Hp → Prop) : Prop where
  rz : Raises X C R
  ps : Passes (CXr X.prog X.w) X (fun c _ H' => c = .ref C ∧ R H')
def RZ (W : Wd) (t : (Hp → Prop) → L2.St → Hp → Prop) (f : Prop → Env → Prop) : Prop := ∀ (R : Hp → Prop) (R0 : Prop) σ H Hs Hr ρ, G W Hr H Hs → ER W Hs σ ρ → f R0 ρ → (∀ H' Hs', R0 → G W Hr H' Hs' → Same Hs Hs' → R H') → t R σ H
def XZ (κ : Kx) (C : Addr) (e : Expr) (f : Prop → Env → Prop) : Prop := ∃ t, (∀ X R, Cn κ X.nox → PassR X C R → PE X e (fun σ H _ => t R σ H)) ∧ ∀ d Pt, κ.fam d Pt → RZ (κ.W d Pt) t f
def zCall (g : Prop → List PyData → Pp PyData) (fs : Env → Pp (List PyData)) : Prop → Env → Prop := fun R0 ρ => fs ρ fun ds => ds.all noPot = true ∧ g R0 ds fun _ => False
section
variable {κ : Kx} {C : Addr} {e c : Expr} {es : List Expr} {fs : Env → Pp (List PyData)} {fz : Prop → Env → Prop} {f1 : Env → Pp Bool} {st : Stmt} {rest body ss : List Stmt} {pos p : Pos}
def XSZ (κ : Kx) (C : Addr) (ss : List Stmt) (f : Prop → Sm) : Prop := ∃ t, (∀ X R, Cn κ X.nox → PassR X C R → PSs X ss (t R)) ∧ ∀ d Pt, κ.fam d Pt → RSR (κ.W d Pt) t f
def sZ (fz : Prop → Env → Prop) (R0 : Prop) : Sm := fun _ ρ => fz R0 (frzAll ρ)
end
section
variable {P : Program} {w : World} {K : PySem.W.Frag} {mg : Str → Option Value} {base : Heap}
end
section
variable {E : En} {ρ : Env} {R0 : Prop} {fs : Env → Pp (List PyData)} {gr : Prop → List PyData → Pp PyData} {fz : Prop → Env → Prop}
@[simp] theorem s_sZ : sZ fz R0 E ρ = fz R0 (frzAll ρ) := rfl
@[simp] theorem s_zCall : zCall gr fs R0 ρ = fs ρ fun ds => ds.all noPot = true ∧ gr R0 ds fun _ => False := rfl
end
end DL
set_option Elab.async false
set_option linter.all false
set_option maxRecDepth 100000
set_option maxHeartbeats 400000
namespace L2
open PySem PySem.Spec PyProof.Rows
def tCs : List Addr → TA
  | [] => tNil
  | W :: r => tCons (tC (.ref W)) (tCs r)
end L2
namespace DL
open PySem PySem.Spec PyProof.Rows L2
open PySem.W (kitOne kitAny kia_tup)
inductive XIL (K : PySem.W.Frag) (mg : Str → Option Value) (C : Addr) : List Str → Prop
  | nil : XIL K mg C []
  | cons {x : Str} {xs : List Str} : XIs K mg x C false → XIL K mg C xs → XIL K mg C (x :: xs)
inductive NmE : List Expr → List Str → Prop
  | nil : NmE [] []
  | cons {x : Str} {xs : List Str} {p : Pos} {es : List Expr} : (x == ("__debug__" : Str)) = false → NmE es xs → NmE (.Name x p :: es) (x :: xs)
theorem XIL.any {K : PySem.W.Frag} {mg : Str → Option Value} {C : Addr} : ∀ {xs : List Str}, XIL K mg C xs → ∃ Ws : List Addr, Ws.length = xs.length ∧ kitAny K (.ref C) (Ws.map Value.ref) = some false ∧ ∀ (i : Nat) x W, xs[i]? = some x → Ws[i]? = some W → mg x = some (.ref W)
  | _, .nil => ⟨[], rfl, rfl, fun i x W h => by simp at h⟩
  | _, .cons h r => by
    obtain ⟨W, hW, hk⟩ := h.ex
    obtain ⟨Ws, hl, ha, hm⟩ := r.any
    refine ⟨W :: Ws, by simp [hl], ?_, fun i y V h1 h2 => ?_⟩
    · show (match kitOne K (.ref C) (.ref W) with | some true => some true | some false => kitAny K (.ref C) (Ws.map Value.ref) | none => none) = _
      rw [hk]
      exact ha
    · cases i with
      | zero => simp at h1 h2; subst h1 h2; exact hW
      | succ i => exact hm i y V (by simpa using h1) (by simpa using h2)
def rIsT (C : Addr) (Ws : List Addr) (b : Bool) : List V → Hp → VK → Prop := fun vs H Q => ∃ ea tp, vs = [.ref ea, .ref tp] ∧ H ea = some (ExcO ea C) ∧ H tp = some (.tup (Ws.map V.ref)) ∧ Q (.bl b) H
theorem vals_refs {Ws : List Addr} : ∀ {us : List Value}, Vals (Ws.map V.ref) us → us = Ws.map Value.ref := by
  induction Ws with
  | nil => intro us h; cases h; rfl
  | cons W r ih =>
    intro us h
    cases h with
    | cons a b => rw [ih b]; cases a; rfl
section
variable {κ : Kx} {C : Addr} {a : Expr} {fa : Env → Pp PyData} {p p1 pos : Pos}
end
end DL
set_option Elab.async false
set_option linter.all false
set_option maxRecDepth 100000
set_option maxHeartbeats 400000
namespace DL
open PySem PySem.Spec PyProof.Rows L2
def keepC : Option Cell → Option Cell
  | some (.dat d) => if noPot d = true then some (.dat d) else none
  | _ => none
def exE (i j : Nat) (ρ : Env) : Env := ((ρ.map keepC).set i (some (.dat (.dict [])))).set j none
def sRefuseI (i j : Nat) (gR : Prop → List PyData → Pp PyData) (fs : Env → Pp (List PyData)) (f : Sm) : Sm := fun E ρ => i < ρ.length ∧ fs (ρ.set i (some (.dat .none))) fun ds => ds.all noPot = true ∧ gR (f ⟨fun _ => False, fun d => noPot d = true ∧ E.rt d, fun _ => False, fun _ => False, fun _ => False⟩ (exE i j ρ)) ds fun _ => False
abbrev Kx.exc (κ : Kx) (C : Addr) : Kx := { κ with fam := famE C }
theorem Cn.exc {κ : Kx} {X : Cx} {C : Addr} (h : Cn κ X) : Cn (κ.exc C) X := ⟨h.prog, h.wd, h.kk, h.mg, h.base, h.room, h.nn, h.names, h.kind, h.fn, h.nd, h.calm, h.xe⟩
section
variable {κ : Kx} {C Wc : Addr} {e : Expr} {es : List Expr} {fs : Env → Pp (List PyData)} {rest : List Stmt} {f : Sm}
end
section
variable {i j : Nat} {gR : Prop → List PyData → Pp PyData} {fs : Env → Pp (List PyData)} {f : Sm} {E : En} {ρ : Env}
@[simp] theorem s_sRefuseI : sRefuseI i j gR fs f E ρ = (i < ρ.length ∧ fs (ρ.set i (some (.dat .none))) fun ds => ds.all noPot = true ∧ gR (f ⟨fun _ => False, fun d => noPot d = true ∧ E.rt d, fun _ => False, fun _ => False, fun _ => False⟩ (exE i j ρ)) ds fun _ => False) := rfl
@[simp] theorem s_exE : exE i j ρ = ((ρ.map keepC).set i (some (.dat (.dict [])))).set j none := rfl
@[simp] theorem s_keepD {d : PyData} : keepC (some (.dat d)) = if noPot d = true then some (.dat d) else none := rfl
@[simp] theorem s_keepO {ds : List PyData} : keepC (some (.own ds)) = none := rfl
@[simp] theorem s_keepN : keepC none = none := rfl
end
end DL
set_option Elab.async false
set_option linter.all false
set_option maxRecDepth 100000
set_option maxHeartbeats 400000
namespace DL
open PySem L2
def repD {α : Type} (k : Nat) (a : List α) : List α := (List.replicate k a).flatten
def fMulM (fa : Env → Pp (List PyData)) (fb : Env → Pp PyData) : Env → Pp (List PyData) := fun ρ => bnd (fa ρ) fun a => bnd (fb ρ) fun b => fun Q => ∃ k, b = .int k ∧ (0 ≤ k ∧ k ≤ 1000) ∧ a.length ≤ 1000 ∧ Q (repD k.toNat a)
theorem DvAll.rep {K : PySem.W.Frag} {H : Hp} {vs : List V} {ds : List PyData} (h : DvAll K H vs ds) : ∀ n : Nat, DvAll K H (repD n vs) (repD n ds)
  | 0 => .nil
  | n + 1 => by
    show DvAll K H (List.replicate (n + 1) vs).flatten (List.replicate (n + 1) ds).flatten
    rw [List.replicate_succ, List.flatten_cons, List.replicate_succ, List.flatten_cons]
    exact h.append (DvAll.rep h n)
section
variable {κ : Kx} {a b : Expr} {fb : Env → Pp PyData} {pos : Pos}
@[simp] theorem s_fMulM {fa : Env → Pp (List PyData)} {fb : Env → Pp PyData} {ρ : Env} {Q : List PyData → Prop} : fMulM fa fb ρ Q = fa ρ fun a => fb ρ fun b => ∃ k, b = .int k ∧ (0 ≤ k ∧ k ≤ 1000) ∧ a.length ≤ 1000 ∧ Q (repD k.toNat a) := rfl
end
end DL
set_option Elab.async false
set_option linter.all false
set_option maxRecDepth 100000
set_option maxHeartbeats 400000
namespace DL
open PySem L2
def rem (H : Hp) (q : Addr) : Hp := fun a => if a = q then none else H a
theorem rem_ne {H : Hp} {q a : Addr} (h : a ≠ q) : rem H q a = H a := by unfold rem; rw [if_neg h]
section
variable {K : PySem.W.Frag} {H : Hp} {q : Addr} {od : Obj} {kvs : List (Key × V)}
theorem Rd.rem {a : Addr} {u : HO} (hq : H q = some (.frz od (.dK kvs))) (hu : ∀ m, u ≠ .dK m) (hf : ∀ o w, u ≠ .frz o w) (h : Rd H a u) : Rd (DL.rem H q) a u := by
  have hne : a ≠ q := by
    rintro rfl
    rcases h with h | ⟨o, h⟩
    · rw [hq] at h; cases h; exact hf _ _ rfl
    · rw [hq] at h; cases h; exact hu _ rfl
  rcases h with h | ⟨o, h⟩
  · exact .inl (by rw [rem_ne hne]; exact h)
  · exact .inr ⟨o, by rw [rem_ne hne]; exact h⟩
mutual
theorem Dv.rem (hq : H q = some (.frz od (.dK kvs))) : ∀ {v : V} (d : PyData), Dv K H v d → Dv K (DL.rem H q) v d
  | _, .none, h => by cases h; exact .non
  | _, .bool _, h => by cases h; exact .bl _
  | _, .int _, h => by cases h; exact .int _
  | _, .str _, h => by cases h; exact .str _
  | _, .list ds, h => by
    cases h with
    | lst a z c =>
      refine .lst ?_ z (DvAll.rem hq ds c)
      rcases a with a | a
      · exact .inl (Rd.rem hq (fun m e => by cases e) (fun o w e => by cases e) a)
      · exact .inr a
  | _, .tuple ds, h => by
    cases h with
    | tup a z c =>
      refine .tup ?_ z (DvAll.rem hq ds c)
      rcases a with a | a
      · exact .inl (Rd.rem hq (fun m e => by cases e) (fun o w e => by cases e) a)
      · exact .inr a
  | _, .dict _, h => by cases h
theorem DvAll.rem (hq : H q = some (.frz od (.dK kvs))) : ∀ {vs : List V} (ds : List PyData), DvAll K H vs ds → DvAll K (DL.rem H q) vs ds
  | _, [], h => by cases h; exact .nil
  | _, d :: ds, h => by
    cases h with
    | cons a b => exact .cons (Dv.rem hq d a) (DvAll.rem hq ds b)
end
end
section
variable {W : Wd} {a : Nat}
theorem QS.facts {q : Addr} {Ho Hr H Hs : Hp} {σ : St} {ρ : Env} {kvs : List (Key × V)} (s : SR0 W Ho (upd Hr q (.dK kvs)) H Hs σ ρ) : Ho q = none ∧ Hs q = none ∧ H q = some (.dK kvs) := by
  have hoq := apart_q s.ap
  have hrq : plus Ho (upd Hr q (.dK kvs)) q = some (.dK kvs) := by rw [plus_r hoq, upd_same]
  refine ⟨hoq, ?_, s.g.visr _ _ hrq⟩
  exact s.g.rnew hrq
def qAsgL (a : Nat) (fe : Env → Pp PyData) (i : Nat) : Tq := fun P es ρ => fe (ρ.set a (some (.dat (dctD es)))) fun d => noPot d = true ∧ P es (ρ.set i (some (.dat d)))
structure QC (Hr : Hp) (q : Addr) : Prop where
  fr : Hr q = none
def RQ2 (W : Wd) (a : Nat) (t : TS) (f : Tq) : Prop := ∀ D σ H Hs Ho Hr ρ q es (P : Es → Env → Prop), Hr q = none → QS W a q Ho Hr H Hs σ ρ es → f P es ρ →
  (∀ σ' ρ' H' Hs' es', P es' ρ' → QS W a q Ho Hr H' Hs' σ' ρ' es' → Same Hs Hs' → D.nx σ' H') → t D σ H
def qAugL (a : Nat) (i : Nat) (fe : Env → Pp PyData) : Tq := fun P es ρ => ∃ k, datAt ρ i = some (.int k) ∧ fe (ρ.set a (some (.dat (dctD es)))) fun d => ∃ j, d = .int j ∧ P es (ρ.set i (some (.dat (.int (k + j)))))
end
end DL
set_option Elab.async false
set_option linter.all false
set_option maxRecDepth 100000
set_option maxHeartbeats 400000
namespace DL
open PySem L2
section
variable {W : Wd} {a : Nat}
abbrev Td := En → Es → Env → Prop
def RD (W : Wd) (a : Nat) (u : TS) (F : Td) : Prop := ∀ D σ H Hs Ho Hr ρ q es E, Hr q = none → QS W a q Ho Hr H Hs σ ρ es → F E es ρ → Ct W Hr Hs D E → u D σ H
def dQ (f : Tq) (F : Td) : Td := fun E es ρ => f (fun es' ρ' => F E es' ρ') es ρ
def dEnd (g : Sm) : Td := fun E _ ρ => g E ρ
def dRet : Td := fun E es _ => E.rt (dctD es)
theorem upd_id {H : Hp} {q : Addr} {u : HO} (h : H q = some u) : upd H q u = H := by
  funext a
  by_cases e : a = q
  · subst e; rw [upd_same, h]
  · rw [upd_ne e]
def sDctB (a : Nat) (F : Td) : Sm := fun E ρ => a < ρ.length ∧ F E [] (ρ.set a none)
def sDctP (a b : Nat) (k : Int) (F : Td) : Sm := fun E ρ => (a < ρ.length ∧ a ≠ b) ∧ F E [] ((ρ.set a none).set b (some (.dat (.int k))))
end
section
variable {κ : Kx} {e ei c tg : Expr} {es : List Expr} {fa fe fk fv : Env → Pp PyData} {pos p px pd pr rpos tpos : Pos} {i : Nat} {st : Stmt} {ss rest : List Stmt} {f g : Tq} {is : List Nat} {fg : PyData → Env → Pp Env} {F : Td} {G : Sm}
def XQ2 (κ : Kx) (i : Nat) (ss : List Stmt) (f : Tq) : Prop := ∃ t, (∀ X, Cn κ X → PSs X ss t) ∧ ∀ d Pt, κ.fam d Pt → RQ2 (κ.W d Pt) i t f
def XQ21 (κ : Kx) (i : Nat) (st : Stmt) (f : Tq) : Prop := ∃ t, (∀ X, Cn κ X → PS X st t) ∧ ∀ d Pt, κ.fam d Pt → RQ2 (κ.W d Pt) i t f
def XD (κ : Kx) (i : Nat) (ss : List Stmt) (F : Td) : Prop := ∃ t, (∀ X, Cn κ X → PSs X ss t) ∧ ∀ d Pt, κ.fam d Pt → RD (κ.W d Pt) i t F
end
section
variable {f : Tq} {F : Td} {G : Sm} {P : Es → Env → Prop} {ρ : Env} {es : Es} {fe : Env → Pp PyData} {E : En} {a b i : Nat} {k : Int}
@[simp] theorem s_qAsgL : qAsgL a fe i P es ρ = fe (ρ.set a (some (.dat (dctD es)))) fun d => noPot d = true ∧ P es (ρ.set i (some (.dat d))) := rfl
@[simp] theorem s_dQ : dQ f F E es ρ = f (fun es' ρ' => F E es' ρ') es ρ := rfl
@[simp] theorem s_dEnd : dEnd G E es ρ = G E ρ := rfl
@[simp] theorem s_dRet : dRet E es ρ = E.rt (dctD es) := rfl
@[simp] theorem s_sDctB : sDctB a F E ρ = (a < ρ.length ∧ F E [] (ρ.set a none)) := rfl
@[simp] theorem s_sDctP : sDctP a b k F E ρ = ((a < ρ.length ∧ a ≠ b) ∧ F E [] ((ρ.set a none).set b (some (.dat (.int k))))) := rfl
end
end DL
set_option Elab.async false
set_option linter.all false
set_option maxRecDepth 100000
set_option maxHeartbeats 400000
namespace DL
open PySem L2
def downD (lo : Int) (n : Nat) : List PyData := (List.range n).map fun k => PyData.int (lo - (k : Nat))
def iR3 (fs : Env → Pp (List PyData)) : Env → Pp (List PyData) := fun ρ => bnd (fs ρ) fun ds => fun Q => ∃ i j : Int, ds = [.int i, .int j, .int (-1)] ∧ (-1000 ≤ i ∧ i ≤ 1000 ∧ -1000 ≤ j ∧ j ≤ 1000) ∧ Q (downD i (i - j).toNat)
section
variable {κ : Kx} {tg a b c : Expr} {fs : Env → Pp (List PyData)} {p pos : Pos}
@[simp] theorem s_iR3 {ρ : Env} {Q : List PyData → Prop} : iR3 fs ρ Q = fs ρ fun ds => ∃ i j : Int, ds = [.int i, .int j, .int (-1)] ∧ (-1000 ≤ i ∧ i ≤ 1000 ∧ -1000 ≤ j ∧ j ≤ 1000) ∧ Q (downD i (i - j).toNat) := rfl
@[simp] theorem s_qAugL {a i : Nat} {fe : Env → Pp PyData} {P : Es → Env → Prop} {es : Es} {ρ : Env} : qAugL a i fe P es ρ = ∃ k, datAt ρ i = some (.int k) ∧ fe (ρ.set a (some (.dat (dctD es)))) fun d => ∃ j, d = .int j ∧ P es (ρ.set i (some (.dat (.int (k + j))))) := rfl
end
end DL
set_option Elab.async false
set_option linter.all false
set_option maxRecDepth 100000
set_option maxHeartbeats 2000000
namespace IT
open PySem PySem.Calls PyProof.Rows PyProof.V PySem.Spec
open PySem.W (kdx_alive kdx_hint)
def Ent (h : Heap) (d : Addr) (ps : List (Value × Value)) (ep : Nat) : Prop := ∃ o es, h.get? d = some o ∧ o.data = .dict es ep ∧ es.toList.map (fun e => (e.key, e.val)) = ps
theorem Ent.at' {h h' : Heap} {d : Addr} {ps : List (Value × Value)} {ep : Nat} (x : Ent h d ps ep) (k : ∀ o, h.get? d = some o → h'.get? d = some o) : Ent h' d ps ep := let ⟨o, es, ho, r⟩ := x; ⟨o, es, k o ho, r⟩
theorem Ent.lt {h : Heap} {d : Addr} {ps : List (Value × Value)} {ep : Nat} (x : Ent h d ps ep) : d < h.objs.size := let ⟨_, _, ho, _⟩ := x; Heap.lt_size ho
theorem ent_size {es : Array DictEntry} {ps : List (Value × Value)} (h : es.toList.map (fun e => (e.key, e.val)) = ps) : es.size = ps.length := by rw [← h, List.length_map, Array.length_toList]
theorem ent_get {es : Array DictEntry} {ps : List (Value × Value)} (h : es.toList.map (fun e => (e.key, e.val)) = ps) {i : Nat} (hi : i < es.size) {k v : Value} (hx : ps[i]? = some (k, v)) : es[i].key = k ∧ es[i].val = v := by
  rw [← h, List.getElem?_map, Array.getElem?_toList, Array.getElem?_eq_getElem hi] at hx
  have hx := Option.some.inj hx
  exact ⟨congrArg Prod.fst hx, congrArg Prod.snd hx⟩
abbrev It0 (h : Heap) (it : Addr) (F0 : Value) (fl : Bool) (d : Addr) (i n ep : Nat) (ok ov : Value) : Prop := h.get? it = some { cls := .type "dict_itemiterator", dict := none, data := .fields #[F0, .bool fl, .ref d, .int i 0, .int n 0, .int ep 0, ok, ov], slots := #[] }
section
variable {prog : Program} {w : World} {A : Around} {E : Value → Shared → Prop} {s : Shared}
theorem pair_out {it d : Addr} {F0 : Value} {fl : Bool} {i n ep : Nat} {k v ok ov : Value} {Q : Value → Shared → Prop} (hit : It0 s.heap it F0 fl d i n ep ok ov) (hF : F0 = .none ∨ ∃ a oa, F0 = rawInt (a : Nat) ∧ s.heap.get? a = some oa ∧ a ≠ it)
    (hQ : ∀ h' F1 f1 ok1 ov1, It0 h' it F1 f1 d i n ep ok1 ov1 → (F1 = rawInt (s.heap.objs.size : Nat) ∨ F1 = F0) → h'.get? s.heap.objs.size = some { cls := .type "tuple", data := .seq #[k, v] } → h'.objs.size = s.heap.objs.size + 1 →
      (∀ b o, b ≠ it → s.heap.get? b = some o → h'.get? b = some o) → (F1 = F0 → F0 ≠ .none) → Q (.ref s.heap.objs.size) { s with heap := h' }) :
    wpAny (model prog w) A (Builtin.Dict_items.pairFromOwner (.ref it) 6 k v) Q E s := by
  obtain ⟨hp, g, dr, tk, os⟩ := s
  have hil : it < hp.objs.size := Heap.lt_size hit
  unfold Builtin.Dict_items.pairFromOwner
  refine wpAny_bind (wpAny_newTuple ?_)
  have e2 : It0 (hp.push { cls := .type "tuple", data := .seq #[k, v] }) it F0 fl d i n ep ok ov := Heap.get?_push_of_some _ hit
  have t2 : (hp.push { cls := .type "tuple", data := .seq #[k, v] }).get? hp.objs.size = some { cls := .type "tuple", data := .seq #[k, v] } := Heap.get?_push_size _ rfl
  have z2 : (hp.push { cls := .type "tuple", data := .seq #[k, v] }).objs.size = hp.objs.size + 1 := by rw [Heap.size_push]
  have k2 : ∀ b o, hp.get? b = some o → (hp.push { cls := .type "tuple", data := .seq #[k, v] }).get? b = some o := fun b o e => Heap.get?_push_of_some _ e
  generalize (hp.push { cls := .type "tuple", data := .seq #[k, v] }) = h2 at e2 t2 z2 k2
  show wpAny _ _ (Builtin.Dict_items.ownedTupleIsFree (.ref it) >>= _) _ _ ⟨h2, g, dr, tk, os⟩
  have ne := Nat.ne_of_gt hil
  refine wpAny_bind ?_
  unfold Builtin.Dict_items.ownedTupleIsFree
  rcases hF with rfl | ⟨a, oa, rfl, ha, hai⟩
  · refine wpAny_bind (wpAny_field e2 rfl (x := .none) rfl (wpAny_pure ?_)); simp only [if_true]
    refine wpAny_bind (wpAny_field e2 rfl (x := ok) rfl ?_); refine wpAny_bind (wpAny_field e2 rfl (x := ov) rfl ?_)
    refine wpAny_bind (wpAny_setField_rec e2 (by simp) fun h3 e3 s3 => ?_); replace e3 : It0 h3 it .none fl d i n ep k ov := e3; replace s3 : Heap.SameBut it h2 h3 := s3
    refine wpAny_bind (wpAny_setField_rec e3 (by simp) fun h4 e4 s4 => ?_); replace e4 : It0 h4 it .none fl d i n ep k v := e4; replace s4 : Heap.SameBut it h3 h4 := s4
    refine wpAny_bind (wpAny_setField_rec e4 (by simp) fun h5 e5 s5 => ?_); replace e5 : It0 h5 it (rawInt hp.objs.size) fl d i n ep k v := e5; replace s5 : Heap.SameBut it h4 h5 := s5
    refine wpAny_bind (wpAny_setField_rec e5 (by simp) fun h6 e6 s6 => ?_); replace e6 : It0 h6 it (rawInt hp.objs.size) false d i n ep k v := e6; replace s6 : Heap.SameBut it h5 h6 := s6
    have kp : ∀ b o, b ≠ it → h2.get? b = some o → h6.get? b = some o := fun b o hb e => s6.extBut b o hb (s5.extBut b o hb (s4.extBut b o hb (s3.extBut b o hb e)))
    have hz : h6.objs.size = hp.objs.size + 1 := by rw [s6.1, s5.1, s4.1, s3.1, z2]
    exact wpAny_bind (wpAny_letGo (wpAny_pure (hQ h6 _ _ _ _ e6 (.inl rfl) (kp _ _ ne t2) hz (fun b o hb e => kp b o hb (k2 b o e)) (fun z => by cases z))))
  · refine wpAny_bind (wpAny_field e2 rfl (x := rawInt a) rfl ?_)
    show wpAny _ _ (loadIfAlive ((a : Int).toNat) >>= _) _ _ _
    rw [Int.toNat_natCast]
    refine wpAny_bind (kdx_alive (k2 a oa ha) ?_); simp only [Option.isNone_some, Bool.false_eq_true, if_false]
    refine wpAny_bind (wpAny_field e2 rfl (x := .bool fl) rfl ?_)
    cases fl with
    | true =>
      rw [if_neg (show ¬ ((Value.bool true != Value.bool true) = true) by decide)]; refine wpAny_pure ?_; simp only [Bool.false_eq_true, if_false]
      exact wpAny_pure (hQ h2 _ _ _ _ e2 (.inr rfl) t2 z2 (fun b o _ e => k2 b o e) (fun _ z => by cases z))
    | false =>
      rw [if_pos (show (Value.bool false != Value.bool true) = true by decide)]
      refine wpAny_bind (wpAny_setField_rec e2 (by simp) fun h3 e3 s3 => ?_); replace e3 : It0 h3 it (rawInt a) true d i n ep ok ov := e3; replace s3 : Heap.SameBut it h2 h3 := s3
      refine wpAny_pure ?_; simp only [Bool.false_eq_true, if_false]
      exact wpAny_pure (hQ h3 _ _ _ _ e3 (.inr rfl) (s3.extBut _ _ ne t2) (by show h3.objs.size = _; rw [s3.1, z2]) (fun b o hb e => s3.extBut b o hb (k2 b o e)) (fun _ z => by cases z))
theorem next_item {it d : Addr} {F0 : Value} {fl : Bool} {i ep : Nat} {ps : List (Value × Value)} {k v ok ov : Value} {Q : Option Value → Shared → Prop} (hit : It0 s.heap it F0 fl d i ps.length ep ok ov) (hF : F0 = .none ∨ ∃ a oa, F0 = rawInt (a : Nat) ∧ s.heap.get? a = some oa ∧ a ≠ it) (hm : Ent s.heap d ps ep) (hd : d ≠ it) (hx : ps[i]? = some (k, v))
    (hQ : ∀ h' F1 f1 ok1 ov1, It0 h' it F1 f1 d (i + 1) ps.length ep ok1 ov1 → (F1 = rawInt (s.heap.objs.size : Nat) ∨ F1 = F0) → h'.get? s.heap.objs.size = some { cls := .type "tuple", data := .seq #[k, v] } → h'.objs.size = s.heap.objs.size + 1 →
      (∀ b o, b ≠ it → s.heap.get? b = some o → h'.get? b = some o) → (F1 = F0 → F0 ≠ .none) → Q (some (.ref s.heap.objs.size)) { s with heap := h' }) :
    wpAny (model prog w) A (pyNext (.ref it)) Q E s := by
  obtain ⟨hp, g, dr, tk, os⟩ := s
  obtain ⟨od, es, hod, hdd, hps⟩ := id hm
  have hsz := ent_size hps
  have hT : Shared.TypeIs ⟨hp, g, dr, tk, os⟩ (.ref it) "dict_itemiterator" := ⟨_, hit, rfl⟩
  have hlt : i < es.size := by
    rcases Nat.lt_or_ge i ps.length with h | h
    · omega
    · rw [List.getElem?_eq_none h] at hx; cases hx
  obtain ⟨ek, ev⟩ := ent_get hps hlt hx
  unfold pyNext
  refine wpAny_bind (wpAny_attempt (wpAny_callSpecial?_slot (name := Str.ofString "__next__") hT PySem.F.slot_dict_itemiterator_next (wpAny_call_entry PySem.F.slot_dict_itemiterator_next hT PySem.F.entry_dict_itemiterator_next ?_ (PySem.F.args_dict_itemiterator_next_1 _))))
  refine wpAny_bind (wpAny_pure ?_); refine wpAny_bind ?_; refine wpAny_bind ?_
  first | (refine wpAny_bind (wpAny_typeNameOfWhole_itemiter hT (wpAny_pure ?_))) | (refine wpAny_bind (wpAny_typeNameOf_itemiter hT (wpAny_pure ?_)))
  refine wpAny_bind (wpAny_fieldsOf hit rfl ?_); have hown : Builtin.Dict_items.ownsTuple "dict_itemiterator" = true := by decide
  simp only [hown, if_true]; show wpAny _ _ (if (Value.ref d == Value.none) = true then _ else _) _ _ _; rw [if_neg (show ¬ ((Value.ref d == Value.none) = true) by intro z; cases z)]
  refine wpAny_bind (wpAny_pure ?_); refine wpAny_bind (wpAny_dictEntries hod hdd ?_); rw [if_neg (by rw [hsz]; simp)]
  refine wpAny_bind (wpAny_pure ?_); refine wpAny_bind (wpAny_dictEpoch hod hdd ?_); rw [if_neg (by simp)]; refine wpAny_pure ?_
  simp only [show ¬ ((i : Int) < 0) from by omega, if_false, Int.toNat_natCast, Array.getElem?_eq_getElem hlt]; refine wpAny_bind ?_
  first | (refine wpAny_bind (wpAny_typeNameOfWhole_itemiter hT (wpAny_pure ?_))) | (refine wpAny_bind (wpAny_typeNameOf_itemiter hT (wpAny_pure ?_)))
  refine wpAny_bind (wpAny_isOneOf_itemiter hT ?_); show wpAny _ _ (setField (.ref it) 3 (rawInt ((i : Int) + 1)) >>= _) _ _ ⟨hp, g, dr, tk, os⟩
  refine wpAny_bind (wpAny_setField_rec hit (by simp) fun h1 e1 s1 => ?_); replace s1 : Heap.SameBut it hp h1 := s1
  replace e1 : It0 h1 it F0 fl d (i + 1) ps.length ep ok ov := by
    have e : ((i + 1 : Nat) : Int) = (i : Int) + 1 := by omega
    unfold It0; rw [e]; simpa [rawInt] using e1
  have hT1 : Shared.TypeIs ⟨h1, g, dr, tk, os⟩ (.ref it) "dict_itemiterator" := ⟨_, e1, rfl⟩
  refine wpAny_bind (wpAny_holding ?_); refine wpAny_bind (wpAny_isOneOf_itemiter hT1 ?_); refine wpAny_bind (wpAny_isOneOf_itemiter hT1 ?_)
  show wpAny _ _ (Builtin.Dict_items.pairFromOwner (.ref it) 6 es[i].key es[i].val) _ _ ⟨h1, g, dr, tk, os⟩
  rw [ek, ev]
  have hz1 : h1.objs.size = hp.objs.size := s1.1
  refine pair_out (s := ⟨h1, g, dr, tk, os⟩) e1 (hF.imp_right fun ⟨a, oa, q1, q2, q3⟩ => ⟨a, oa, q1, s1.extBut _ _ q3 q2, q3⟩) fun h2 F1 f1 ok1 ov1 q1 q2 q3 q4 q5 q6 => ?_
  dsimp only at q2 q3 q4 q5
  rw [hz1] at q2 q3 q4 ⊢
  exact wpAny_pure ⟨_, rfl, wpAny_pure (hQ h2 F1 f1 ok1 ov1 q1 q2 q3 q4 (fun b o hb e => q5 b o hb (s1.extBut b o hb e)) q6)⟩
theorem next_end {it d : Addr} {F0 : Value} {fl : Bool} {i ep : Nat} {ps : List (Value × Value)} {ok ov : Value} {Q : Option Value → Shared → Prop} (hh : A.handled = none) (hit : It0 s.heap it F0 fl d i ps.length ep ok ov) (hm : Ent s.heap d ps ep) (hi : ps.length ≤ i)
    (hQ : ∀ h', Heap.ExtBut it s.heap h' → Q none { s with heap := h' }) : wpAny (model prog w) A (pyNext (.ref it)) Q E s := by
  obtain ⟨od, es, hod, hdd, hps⟩ := id hm
  have hsz := ent_size hps
  have hT : s.TypeIs (.ref it) "dict_itemiterator" := ⟨_, hit, rfl⟩
  unfold pyNext
  refine wpAny_bind (wpAny_attempt (wpAny_callSpecial?_slot (name := Str.ofString "__next__") hT PySem.F.slot_dict_itemiterator_next (wpAny_call_entry PySem.F.slot_dict_itemiterator_next hT PySem.F.entry_dict_itemiterator_next ?_ (PySem.F.args_dict_itemiterator_next_1 _))))
  refine wpAny_bind (wpAny_pure ?_); refine wpAny_bind ?_; refine wpAny_bind ?_
  first | (refine wpAny_bind (wpAny_typeNameOfWhole_itemiter hT (wpAny_pure ?_))) | (refine wpAny_bind (wpAny_typeNameOf_itemiter hT (wpAny_pure ?_)))
  refine wpAny_bind (wpAny_fieldsOf hit rfl ?_); have hown : Builtin.Dict_items.ownsTuple "dict_itemiterator" = true := by decide
  simp only [hown, if_true]; show wpAny _ _ (if (Value.ref d == Value.none) = true then _ else _) _ _ s; rw [if_neg (show ¬ ((Value.ref d == Value.none) = true) by intro z; cases z)]
  refine wpAny_bind (wpAny_pure ?_); refine wpAny_bind (wpAny_dictEntries hod hdd ?_); rw [if_neg (by rw [hsz]; simp)]
  refine wpAny_bind (wpAny_pure ?_); refine wpAny_bind (wpAny_dictEpoch hod hdd ?_); rw [if_neg (by simp)]; refine wpAny_pure ?_
  have hge : es.size ≤ i := by omega
  simp only [show ¬ ((i : Int) < 0) from by omega, if_false, Int.toNat_natCast, Array.getElem?_eq_none hge]; refine wpAny_bind ?_
  first | (refine wpAny_bind (wpAny_typeNameOfWhole_itemiter hT (wpAny_pure ?_))) | (refine wpAny_bind (wpAny_typeNameOf_itemiter hT (wpAny_pure ?_)))
  show wpAny _ _ (setField (.ref it) 2 .none >>= _) _ _ s; refine wpAny_bind (wpAny_setField hit rfl (by simp) ?_)
  show wpAny _ _ (newExc (.type "StopIteration") [] >>= _) _ _ _; refine wpAny_bind ?_; simp only [newExc, newTuple]
  refine wpAny_bind (wpAny_newObj_type ?_ (by size_fits)); refine wpAny_bind (m := firstArgMember _ _) (wpAny_of_eq (a := Value.none) (by first | rfl | (simp only [firstArgMember]; rfl)) ?_)
  refine wpAny_newObj_type ?_ (by size_fits); simp only [raiseNew]; refine wpAny_bind (wpAny_handled ?_); rw [show A.in1.handled = none from hh]
  refine wpAny_bind (wpAny_pure (wpAny_throw ?_)); refine wpAny_bind (wpAny_isInstance (T := "StopIteration") (b := true) ⟨_, Heap.get?_push_size _ rfl, rfl⟩ isSubtype_stop ?_)
  exact wpAny_pure (hQ _ (((Heap.SameBut.update ..).extBut.push _).push _))
theorem iter_view {v d : Addr} {ps : List (Value × Value)} {ep : Nat} {Q : Value → Shared → Prop} (hv : s.heap.IsItemsView v d) (hm : Ent s.heap d ps ep) (hz : ps.length ≤ sizeLine)
    (hQ : Q (.ref s.heap.objs.size) { s with heap := s.heap.push { cls := .type "dict_itemiterator", data := .fields #[.none, .bool false, .ref d, .int 0 0, .int ps.length 0, .int ep 0, .none, .none] } }) : wpAny (model prog w) A (pyIter (.ref v)) Q E s := by
  obtain ⟨ov, hov, hcv, hdv⟩ := id hv
  obtain ⟨o, es, ho, hdat, hps⟩ := id hm
  have hsz := ent_size hps
  refine wpAny_pyIter_slot hv.typeIs PySem.F.slot_dict_items_iter (wpAny_call_entry PySem.F.slot_dict_items_iter hv.typeIs PySem.F.entry_dict_items_iter ?_ (PySem.F.args_dict_items_iter_1 _)); unfold Builtin.«dict_items.__iter__»
  refine wpAny_bind (wpAny_pure ?_); refine wpAny_bind ?_; unfold Builtin.Dict_items.dictOf; refine wpAny_bind (wpAny_field hov hdv (x := .ref d) rfl (wpAny_pure ?_)); refine wpAny_bind ?_
  unfold Builtin.Dict_items.newIterator; refine wpAny_bind (wpAny_dictEntries ho hdat ?_); refine wpAny_bind (wpAny_dictEpoch ho hdat ?_)
  have hown : Builtin.Dict_items.ownsTuple "dict_itemiterator" = true := by decide
  simp only [hown, if_true]
  refine wpAny_newObj_type (wpAny_pure ⟨_, rfl, "dict_itemiterator", _, ⟨_, Heap.get?_push_size _ rfl, rfl⟩, PySem.F.slot_dict_itemiterator_next.lookup, ?_⟩) (by simp only [sizeOk, Builtin.Dict_items.ownedTupleFields, List.size_toArray, List.length_append, List.length_cons, List.length_nil, sizeLine_eq]; omega)
  simpa [rawInt, hsz, Builtin.Dict_items.ownedTupleFields] using hQ
end
end IT
set_option Elab.async false
set_option linter.all false
set_option maxRecDepth 100000
set_option maxHeartbeats 2000000
namespace IT
open PySem PySem.Calls PyProof.Rows PyProof.V PySem.Spec
open PySem.W (kdx_alive kdx_hint)
structure Prs (ps : List (Value × Value)) (lo : Addr) (h : Heap) (as : List Addr) : Prop where
  rise : as.Pairwise (· < ·)
  above : ∀ a ∈ as, lo < a
  at_ : ∀ (j : Nat) (a : Addr), as[j]? = some a → ∃ k x, ps[j]? = some (k, x) ∧ h.get? a = some { cls := .type "tuple", data := .seq #[k, x] }
theorem Prs.lt {ps : List (Value × Value)} {lo : Addr} {h : Heap} {as : List Addr} (g : Prs ps lo h as) {a : Addr} (ha : a ∈ as) : a < h.objs.size := by
  obtain ⟨j, hj⟩ := List.mem_iff_getElem?.mp ha
  obtain ⟨_, _, _, e⟩ := g.at_ j a hj
  exact Heap.lt_size e
theorem Prs.low {ps : List (Value × Value)} {lo l2 : Addr} {h : Heap} {as : List Addr} (g : Prs ps lo h as) (hl : l2 ≤ lo) : Prs ps l2 h as := ⟨g.rise, fun a ha => Nat.lt_of_le_of_lt hl (g.above a ha), g.at_⟩
theorem Prs.keep {ps : List (Value × Value)} {lo : Addr} {h h' : Heap} {as : List Addr} (g : Prs ps lo h as) (k : ∀ b o, lo < b → h.get? b = some o → h'.get? b = some o) : Prs ps lo h' as := ⟨g.rise, g.above, fun j a hj => let ⟨k1, x, e1, e2⟩ := g.at_ j a hj; ⟨k1, x, e1, k _ _ (g.above a (List.mem_of_getElem? hj)) e2⟩⟩
def Sta (h : Heap) (I d S : Addr) (i n ep : Nat) : Prop := ∃ F0 fl ok ov, It0 h I F0 fl d i n ep ok ov ∧ (F0 = .none ∨ ∃ a oa, F0 = rawInt (a : Nat) ∧ h.get? a = some oa ∧ a ≠ I ∧ a ≠ S)
section
variable {prog : Program} {w : World} {A : Around} {E : Value → Shared → Prop} {s : Shared} {R : Result → Shared → Prop} {ps : List (Value × Value)} {ep : Nat}
theorem walk_loop {S I d : Addr} (hh : A.handled = none) (hSI : S < I) (hSd : d ≠ S) (hId : d ≠ I) (hn : ps.length ≤ sizeLine) (res : Value) {hB : Heap}
    (hR : ∀ h' tk acc c as, (∀ b o, b ≠ S → b ≠ I → hB.get? b = some o → h'.get? b = some o) → h'.get? S = some { cls := .type "list", dict := none, data := .seq acc c, slots := #[] } → as.length = ps.length → Prs ps I h' as → acc.toList = as.map Value.ref → R (.ok (.ret res)) { s with heap := h', toks := tk }) :
    ∀ (m i : Nat) (h : Heap) (tk c : Nat) (acc : Array Value) (as : List Addr), ps.length - i = m → i ≤ ps.length → Sta h I d S i ps.length ep → Ent h d ps ep → (∀ b o, b ≠ S → b ≠ I → hB.get? b = some o → h.get? b = some o) →
      h.get? S = some { cls := .type "list", dict := none, data := .seq acc c, slots := #[] } → acc.toList = as.map Value.ref → as.length = i → Prs ps I h as → I < h.objs.size →
      codeAny (model prog w) A (.builtin "list.extend.loop" ⟨[.ref S, .ref I, res], []⟩) R { s with heap := h, toks := tk } := by
  have hne : S ≠ I := Nat.ne_of_lt hSI
  intro m
  induction m with
  | zero =>
    intro i h tk c acc as hm hi ⟨F0, fl, ok, ov, it, hF⟩ hD hk hS hacc hal hG hIs
    refine codeAny_builtin PySem.F.entry_extend_loop ?_; rw [Around.under_plainId PySem.F.plain_extend_loop _]; show wpAny _ A.in1 (pyNext (.ref I) >>= _) _ _ _
    refine wpAny_bind (next_end (s := { s with heap := h, toks := tk }) (A := A.in1) hh it hD (by omega) fun h' he => ?_)
    exact wpAny_pure (hR h' tk acc c as (fun b o h1 h2 e => he b o h2 (hk b o h1 h2 e)) (he S _ hne hS) (by omega) (hG.keep fun b o hb e => he b o (Nat.ne_of_gt hb) e) hacc)
  | succ m ih =>
    intro i h tk c acc as hm hi ⟨F0, fl, ok, ov, it, hF⟩ hD hk hS hacc hal hG hIs
    have hlt : i < ps.length := by omega
    obtain ⟨⟨kk, x⟩, hx⟩ : ∃ p, ps[i]? = some p := ⟨ps[i], List.getElem?_eq_getElem hlt⟩
    have hsz : acc.size = i := by rw [← Array.length_toList, hacc, List.length_map, hal]
    refine codeAny_builtin PySem.F.entry_extend_loop ?_; rw [Around.under_plainId PySem.F.plain_extend_loop _]; show wpAny _ A.in1 (pyNext (.ref I) >>= _) _ _ _
    refine wpAny_bind (next_item (s := { s with heap := h, toks := tk }) it (hF.imp_right fun ⟨a, oa, q1, q2, q3, _⟩ => ⟨a, oa, q1, q2, q3⟩) hD hId hx fun h' F1 f1 ok1 ov1 it1 hF1 ht hz hkp hF2 => ?_)
    dsimp only at hF1 ht hz hkp ⊢
    have hS' := hkp S _ hne hS
    have hSl : S < h.objs.size := Heap.lt_size hS
    have up : ∀ b o, b ≠ S → h'.get? b = some o → (h'.update S (Obj.mapSeq (·.push (Value.ref h.objs.size)))).get? b = some o := fun b o hb e => (Heap.get?_update_other _ _ (Ne.symm hb)).trans e
    have hG' : Prs ps I (h'.update S (Obj.mapSeq (·.push (Value.ref h.objs.size)))) as := hG.keep fun b o hb e => up b o (Nat.ne_of_gt (Nat.lt_trans hSI hb)) (hkp b o (Nat.ne_of_gt hb) e)
    have hnew := up _ _ (Nat.ne_of_gt hSl) ht
    show wpAny _ A.in1 (updateSeq S (·.push (Value.ref h.objs.size)) >>= _) _ _ _
    refine wpAny_bind (wpAny_updateSeq hS' rfl (wpAny_pure ⟨plainId_quiet PySem.F.plain_extend_loop _, ih (i + 1) _ tk _ (acc.push (Value.ref h.objs.size)) (as ++ [h.objs.size]) (by omega) hlt ⟨F1, f1, ok1, ov1, up _ _ (Ne.symm hne) it1, ?_⟩ (hD.at' fun o e => up d o hSd (hkp d o hId e)) (fun b o h1 h2 e => up b o h1 (hkp b o h2 (hk b o h1 h2 e))) (Heap.get?_update_self _ hS' rfl) (by rw [Array.toList_push, hacc, List.map_append]; rfl) (by rw [List.length_append, hal]; rfl) ⟨?_, ?_, ?_⟩ ?_⟩) (by rw [hsz]; omega) (by show (acc.push (Value.ref h.objs.size)).size ≤ sizeLine + 1; rw [Array.size_push, hsz]; omega))
    · rcases hF1 with rfl | rfl
      · exact .inr ⟨h.objs.size, _, rfl, hnew, Nat.ne_of_gt hIs, Nat.ne_of_gt hSl⟩
      · rcases hF with e | ⟨a, oa, q1, q2, q3, q4⟩
        · exact absurd e (hF2 rfl)
        · exact .inr ⟨a, oa, q1, up _ _ q4 (hkp _ _ q3 q2), q3, q4⟩
    · refine List.pairwise_append.mpr ⟨hG.rise, List.pairwise_singleton _ _, fun a ha b hb => ?_⟩
      rw [List.mem_singleton.mp hb]; exact hG.lt ha
    · intro a ha
      rcases List.mem_append.mp ha with ha | ha
      · exact hG.above a ha
      · rw [List.mem_singleton.mp ha]; exact hIs
    · intro j b hj
      rcases Nat.lt_or_ge j as.length with h1 | h1
      · rw [List.getElem?_append_left h1] at hj; exact hG'.at_ j b hj
      · rw [List.getElem?_append_right h1] at hj
        have hj0 : j - as.length = 0 := by
          rcases Nat.eq_zero_or_pos (j - as.length) with h | h
          · exact h
          · rw [List.getElem?_eq_none (by simp; omega)] at hj; cases hj
        rw [hj0] at hj
        have hb : h.objs.size = b := by simpa using hj
        subst hb
        exact ⟨kk, x, by rw [show j = i by omega]; exact hx, hnew⟩
    · exact Nat.lt_trans hIs (Heap.lt_size hnew)
theorem extend_view {r d : Addr} (hh : A.handled = none) (hv : s.heap.IsItemsView r d) (hm : Ent s.heap d ps ep) (S : Addr) (hSr : S ≠ r) (hSd : d ≠ S) (res : Value) (c0 : Nat) (hS : s.heap.get? S = some { cls := .type "list", data := .seq #[] c0 })
    (hR : ∀ h' tk acc c as, (∀ b o, b ≠ S → s.heap.get? b = some o → h'.get? b = some o) → h'.get? S = some { cls := .type "list", dict := none, data := .seq acc c, slots := #[] } → as.length = ps.length → Prs ps s.heap.objs.size h' as → acc.toList = as.map Value.ref → R (.ok (.ret res)) { s with heap := h', toks := tk }) (hn : ps.length ≤ sizeLine) :
    wpAny (model prog w) A.in1 (Builtin.List.listExtendWith (.ref S) (.ref r) res) (fun fin s' => match fin with | .done f => R (.ok f) s' | .again c' => c'.quiet = true ∧ codeAny (model prog w) A c' R s') (fun e s' => R (.error e) s') s := by
  have hSI : S < s.heap.objs.size := Heap.lt_size hS
  have hdI : d < s.heap.objs.size := hm.lt
  have go : ∀ (h : Heap) (c1 tk : Nat), (∀ b o, b ≠ S → (s.heap.push { cls := .type "dict_itemiterator", data := .fields #[.none, .bool false, .ref d, .int 0 0, .int ps.length 0, .int ep 0, .none, .none] }).get? b = some o → h.get? b = some o) →
      h.get? S = some { cls := .type "list", data := .seq #[] c1 } → codeAny (model prog w) A (.builtin "list.extend.loop" ⟨[.ref S, .ref s.heap.objs.size, res], []⟩) R { s with heap := h, toks := tk } := by
    intro h c1 tk hk hS1
    have hI := hk s.heap.objs.size _ (Nat.ne_of_gt hSI) (Heap.get?_push_size _ rfl)
    exact walk_loop (hB := s.heap) hh hSI hSd (Nat.ne_of_lt hdI) hn res (fun h' tk' acc c as hk' hS' hl hG hacc => hR h' tk' acc c as (fun b o hb e => hk' b o hb (Nat.ne_of_lt (Heap.lt_size e)) e) hS' hl hG hacc)
      ps.length 0 h tk c1 #[] [] (Nat.sub_zero _) (Nat.zero_le _) ⟨.none, false, .none, .none, hI, .inl rfl⟩ (hm.at' fun o e => hk d o hSd (Heap.get?_push_of_some _ e)) (fun b o hb _ e => hk b o hb (Heap.get?_push_of_some _ e)) hS1 rfl rfl ⟨List.Pairwise.nil, (fun _ ha => nomatch ha), (fun j a hj => by simp at hj)⟩ (Heap.lt_size hI)
  have n1 : Builtin.List.listSameRef (.ref S) (.ref r) = false := by simp [Builtin.List.listSameRef, hSr]
  have n2 : (Value.type "dict_items" == Value.type "list") = false := by decide
  have n3 : (Value.type "dict_items" == Value.type "tuple") = false := by decide
  unfold Builtin.List.listExtendWith; refine wpAny_bind (wpAny_typeOf (T := "dict_items") hv.typeIs ?_); simp only [n1, n2, n3, Bool.or_false, Bool.false_eq_true, if_false]
  refine wpAny_bind (iter_view hv hm hn ?_)
  have hS1 := Heap.get?_push_of_some { cls := .type "dict_itemiterator", data := .fields #[.none, .bool false, .ref d, .int 0 0, .int ps.length 0, .int ep 0, .none, .none] } hS
  refine wpAny_bind (wpAny_holding (kdx_hint (let ⟨o, ho, hc, _⟩ := hv; ⟨o, Heap.get?_push_of_some _ ho, hc⟩) ?_))
  refine wpAny_ite_split (fun _ => ?_) (fun _ => wpAny_pure ⟨plainId_quiet PySem.F.plain_extend_loop _, go _ c0 _ (fun b o _ e => e) hS1⟩)
  refine wpAny_bind (wpAny_rule ?_); refine wpAny_bind ?_; show wpAny _ _ (updateSeq S (·.push .none) >>= fun _ => updateSeq S (·.pop)) _ _ _; refine wpAny_bind (wpAny_updateSeq hS1 rfl ?_)
  have hS2 := Heap.get?_update_self (Obj.mapSeq (·.push Value.none)) hS1 rfl
  refine wpAny_updateSeq (hz := by seq_fits) hS2 rfl ?_; have hS3 := Heap.get?_update_self (Obj.mapSeq (·.pop)) hS2 rfl
  refine wpAny_pure ⟨plainId_quiet PySem.F.plain_extend_loop _, go _ _ _ (fun b o hb e => ?_) hS3⟩; exact (Heap.get?_update_other _ _ (Ne.symm hb)).trans ((Heap.get?_update_other _ _ (Ne.symm hb)).trans e)
theorem collect_view {r d : Addr} {Q : List Value → Shared → Prop} (hh : A.handled = none) (hv : s.heap.IsItemsView r d) (hm : Ent s.heap d ps ep) (hn : ps.length ≤ sizeLine)
    (h : ∀ (h' : Heap) (tk : Nat) (as : List Addr), (∀ b o, s.heap.get? b = some o → h'.get? b = some o) → as.length = ps.length → Prs ps s.heap.objs.size h' as → s.heap.objs.size ≤ h'.objs.size → Q (as.map Value.ref) { s with heap := h', toks := tk }) : wpAny (model prog w) A (collect (.ref r)) Q E s := by
  have hr : r < s.heap.objs.size := let ⟨_, ho, _⟩ := hv; Heap.lt_size ho
  have hd : d < s.heap.objs.size := hm.lt
  unfold collect
  refine wpAny_bind (wpAny_runValue (codeAny_builtin PySem.F.entry_proto_collect ?_)); rw [Around.under_plainId PySem.F.plain_proto_collect _]; show wpAny _ A.in1 (newList [] >>= fun l => again (.builtin "list.__iadd__" ⟨[l, .ref r], []⟩)) _ _ s
  refine wpAny_bind (wpAny_newObj_type ?_); refine wpAny_pure ⟨plainId_quiet PySem.F.plain_list_iadd _, codeAny_builtin PySem.F.entry_list_iadd ?_⟩; rw [Around.under_plainId PySem.F.plain_list_iadd _]
  have hS1 : (s.heap.push { cls := .type "list", data := .seq ([] : List Value).toArray }).get? s.heap.objs.size = some { cls := .type "list", data := .seq #[] } := Heap.get?_push_size _ rfl
  show wpAny _ A.in1 (Builtin.List.listExtendWith (.ref s.heap.objs.size) (.ref r) (.ref s.heap.objs.size)) _ _ _
  refine extend_view (A := A) (s := { s with heap := s.heap.push { cls := .type "list", data := .seq ([] : List Value).toArray } }) (ps := ps) (ep := ep)
    (R := fun r' s' => match r' with | .ok (.ret v) => wpAny (model prog w) A (match v with | .ref a => do (match (← load a).data with | .seq xs _ => pure xs.toList | _ => unsupported "internal:collect") | _ => unsupported "internal:collect") Q E s' | .ok _ => False | .error e => E e s')
    hh (let ⟨o, ho, x⟩ := hv; ⟨o, Heap.get?_push_of_some _ ho, x⟩) (hm.at' fun o e => Heap.get?_push_of_some _ e) s.heap.objs.size (Nat.ne_of_gt hr) (Nat.ne_of_lt hd) (.ref s.heap.objs.size) 0 hS1 (fun h' tk acc c as hk hS' hl hG hacc => ?_) hn
  show wpAny _ A (load s.heap.objs.size >>= fun o => match o.data with | .seq xs _ => pure xs.toList | _ => unsupported "internal:collect") Q E _
  refine wpAny_bind (wpAny_load hS' ?_)
  refine wpAny_pure ?_
  show Q acc.toList _
  rw [hacc]
  exact h h' tk as (fun b o e => hk b o (Nat.ne_of_lt (Heap.lt_size e)) (Heap.get?_push_of_some _ e)) hl (hG.low (by show s.heap.objs.size ≤ (s.heap.push _).objs.size; rw [Heap.size_push]; exact Nat.le_succ _)) (Nat.le_of_lt (Heap.lt_size hS'))
end
end IT
set_option Elab.async false
set_option linter.all false
set_option maxRecDepth 100000
set_option maxHeartbeats 2000000
namespace IT
open PySem PySem.Spec PySem.Calls PyProof.Rows PyProof.Rows.G DS L2 TW
theorem meets_items {prog : Program} {w : World} (d : Addr) (hd : (d == sysModules) = false) :
    MeetsIn prog w (Builtin.«dict.items» ⟨[.ref d], []⟩) (fun _ R s => s.TypeIs (.ref d) "dict" ∧ R (.ok (.ret (.ref s.heap.objs.size))) { s with heap := s.heap.push { cls := .type "dict_items", data := .fields #[.ref d] } }) :=
  .of_wp fun A R s ⟨hT, h⟩ => by
    unfold Builtin.«dict.items»; refine wpAny_bind ?_; unfold Builtin.Dict.noArgs; refine wpAny_bind (wpAny_notOrdered_dict hT ?_); show wpAny _ _ (pure d) _ _ s; refine wpAny_pure ?_
    show wpAny _ _ (Builtin.Dict.showsAll d >>= _) _ _ s; unfold Builtin.Dict.showsAll; rw [if_neg (by rw [hd]; exact Bool.false_ne_true)]; refine wpAny_bind (wpAny_pure ?_)
    exact wpAny_bind (wpAny_newObj_type (wpAny_pure ⟨_, rfl, h⟩))
abbrev viewO (r q : Addr) : HO := .ext fun h => h.IsItemsView r q
def rItems : V → List V → Hp → VK → Prop := fun x xs H Q => ∃ q kvs, x = .ref q ∧ xs = [] ∧ H q = some (.dT kvs) ∧ ∀ r, H r = none → Q (.ref r) (upd H r (viewO r q))
section
variable {prog : Program} {w : World} {A : Around} {E : Value → Shared → Prop} {s : Shared}
theorem sorted_view {r d : Addr} {ps : List (Value × Value)} {ep : Nat} {rk : Nat → Nat} {kd : SortKind} {Q : Value → Shared → Prop} (hh : A.handled = none) (hv : s.heap.IsItemsView r d) (hm : Ent s.heap d ps ep) (hn : ps.length ≤ sizeLine)
    (hk : ∀ (h1 : Heap) (as : List Addr), (∀ b o, s.heap.get? b = some o → h1.get? b = some o) → as.length = ps.length → Prs ps s.heap.objs.size h1 as → 2 ≤ as.length → ∀ (s' : Shared) {Q : SortKind → Shared → Prop}, KeepsTups h1 s'.heap → Q kd s' → wpAny (model prog w) A.in1.in1 (keyKind' (as.map Value.ref).toArray) Q E s')
    (hc : ∀ (h1 : Heap) (as : List Addr), (∀ b o, s.heap.get? b = some o → h1.get? b = some o) → as.length = ps.length → Prs ps s.heap.objs.size h1 as → ∀ s' : Shared, KeepsTups h1 s'.heap → ∀ i j (hi : i < (as.map Value.ref).length) (hj : j < (as.map Value.ref).length), wpAny (model prog w) A.in1.in1 (keyLt' kd (as.map Value.ref)[i] (as.map Value.ref)[j]) (fun b t => t = s' ∧ b = decide (rk i < rk j)) (fun _ _ => False) s')
    (h : ∀ (h1 h' : Heap) (as : List Addr) (tk : Nat) (p : List Nat) (L : Addr) (e : Nat), (∀ b o, s.heap.get? b = some o → h1.get? b = some o) → as.length = ps.length → Prs ps s.heap.objs.size h1 as → s.heap.objs.size ≤ h1.objs.size → (∀ b o, h1.get? b = some o → h'.get? b = some o) → p.Perm (List.range as.length) → p.Pairwise (fun i j => rk i ≤ rk j) → h1.objs.size ≤ L →
      h'.get? L = some (seqObj "list" (p.map fun k => (as.map Value.ref).getD k .none).toArray e) → Q (.ref L) { s with heap := h', toks := tk }) : wpAny (model prog w) A (call (.builtin "sorted") [.ref r]) Q E s := by
  refine Calls.call_function_entry kind_sorted plain_sorted entry_sorted (args_sorted1 _) ?_; unfold Builtin.«sorted»; refine wpAny_bind (m := checkCount "sorted" 1 1 _) (wpAny_pure ?_)
  refine wpAny_bind (collect_view (by simp [hh]) hv hm hn fun h1 tk as k1 hl hG hS => ?_)
  have hz : (as.map Value.ref).length ≤ sizeLine := by rw [List.length_map, hl]; exact hn
  refine wpAny_bind (wpAny_newList ?_ (by simpa using hz))
  have at1 : (h1.push (seqObj "list" (as.map Value.ref).toArray 0)).get? h1.objs.size = some (seqObj "list" (as.map Value.ref).toArray 0) := Heap.get?_push_size _ rfl
  have kp : KeepsTups h1 (h1.push (seqObj "list" (as.map Value.ref).toArray 0)) := KeepsTups.push _ _
  refine wpAny_bind (wpAny_holding (wpAny_call_entry slot_list_sort ⟨_, at1, rfl⟩ entry_list_sort (sort_at (kd := kd) (rk := rk) at1 hz (fun h2 s' _ k hq => hk h1 as k1 hl hG (by simpa using h2) s' (kp.trans k) hq) (fun s' k => hc h1 as k1 hl hG s' (kp.trans k)) fun p hp hs => ⟨_, rfl, ?_⟩) (args_list_sort _)))
  obtain ⟨e, he⟩ := sortedHeap_at (out := (p.map fun k => (as.map Value.ref).getD k .none).toArray) at1
  rw [List.length_map] at hp
  refine wpAny_pure ⟨_, rfl, h h1 _ as tk p h1.objs.size e k1 hl hG hS (fun b o q => ?_) hp hs (Nat.le_refl _) he⟩
  have hb := Heap.lt_size q
  rw [sortedHeap_old (Nat.ne_of_lt hb) (by rw [Heap.size_push]; exact Nat.lt_succ_of_lt hb), Heap.get?_push_of_some _ q]
end
end IT
set_option Elab.async false
set_option linter.all false
set_option maxRecDepth 100000
set_option maxHeartbeats 2000000
namespace IT
open PySem PySem.Spec PySem.Calls PyProof.Rows PyProof.Rows.G DS L2 TW
abbrev Pe := List Int × Int
def kvT (es : List Pe) : List (List Key × V) := es.map fun e => (e.1.map Sum.inl, V.int e.2)
def encE (e : Pe) : PyData := .tuple [.tuple (e.1.map PyData.int), .int e.2]
def layP (H : Hp) : List Addr → List Addr → List Pe → Hp
  | a :: as, b :: bs, e :: es => layP (upd H a (.tup [.ref b, .int e.2])) as bs es
  | _, _, _ => H
theorem kv_ints (ks : List Int) : (ks.map (Sum.inl : Int → Key)).map kV = ks.map V.int := by rw [List.map_map]; rfl
theorem reads_ints {h : Heap} : ∀ {ns : List Int} {its : List Value}, Vals (ns.map V.int) its → ReadsAll h its (ns.map PyData.int) []
  | [], _, v => by cases v; exact .nil
  | n :: r, _, v => by
    cases v with
    | cons a b =>
      obtain ⟨t, rfl⟩ := a
      exact .cons (as := []) (.int _ _) (reads_ints b)
theorem layP_none {a : Addr} : ∀ {as bs : List Addr} {es : List Pe} {H : Hp}, a ∉ as → layP H as bs es a = H a
  | [], _, _, _, _ => rfl
  | _ :: _, [], _, _, _ => rfl
  | _ :: _, _ :: _, [], _, _ => rfl
  | a0 :: as, b :: bs, e :: es, H, h => by
    show layP (upd H a0 _) as bs es a = H a
    rw [layP_none fun z => h (List.mem_cons_of_mem _ z), upd_ne fun z => h (by rw [z]; exact List.mem_cons_self)]
section
variable {X : Cx} {pins : List (Addr × Obj)} {σ : L2.St}
theorem lay_inv {lo : Addr} (h0 : X.s_0.heap.objs.size ≤ lo) (hf : ∀ a, lo ≤ a → a ≠ X.env.locals ∧ (∀ x c, X.env.cells.lookup x = some c → c ≠ a) ∧ ∀ p ∈ X.pn ++ pins, p.1 ≠ a) {s : Shared} : ∀ {as bs : List Addr} {es : List Pe} {H : Hp}, Inv X pins σ H s → as.Pairwise (· < ·) → (∀ a ∈ as, lo ≤ a ∧ H a = none) → as.length = es.length → bs.length = es.length →
    (∀ (i : Nat) (a : Addr) (b : Addr) (e : Pe), as[i]? = some a → bs[i]? = some b → es[i]? = some e → ∃ t, s.heap.get? a = some { cls := .type "tuple", data := .seq #[.ref b, .int e.2 t] }) → Inv X pins σ (layP H as bs es) s :=
  by
  intro as
  induction as with
  | nil => intro bs es H I _ _ _ _ _; exact I
  | cons a as ih =>
    intro bs es H I hr hA l1 l2 hT
    cases es with
    | nil => cases l1
    | cons e es =>
      cases bs with
      | nil => cases l2
      | cons b bs =>
        obtain ⟨t, ht⟩ := hT 0 a b e rfl rfl rfl
        obtain ⟨q1, q2⟩ := hA a List.mem_cons_self
        obtain ⟨f1, f2, f3⟩ := hf a q1
        rw [List.pairwise_cons] at hr
        have s0 : X.s_0.heap.get? a = none := by
          cases hq : X.s_0.heap.get? a with
          | none => rfl
          | some o => exact absurd (Nat.lt_of_lt_of_le (Heap.lt_size hq) (Nat.le_trans h0 q1)) (Nat.lt_irrefl _)
        have I1 : Inv X pins σ (upd H a (.tup [.ref b, .int e.2])) s := I.track q2 s0 f1 f2 f3 ⟨by show 2 ≤ sizeLine; decide, [.ref b, .int e.2 t], .cons rfl (.cons ⟨t, rfl⟩ .nil), ⟨_, ht, rfl, _, rfl⟩⟩
        exact ih I1 hr.2 (fun a' ha' => by
          have hlt := hr.1 a' ha'
          obtain ⟨z1, z2⟩ := hA a' (List.mem_cons_of_mem _ ha')
          exact ⟨z1, by rw [upd_ne (Nat.ne_of_gt hlt)]; exact z2⟩) (by simpa using l1) (by simpa using l2) fun i a' b' e' e1 e2 e3 => hT (i + 1) a' b' e' (by simpa using e1) (by simpa using e2) (by simpa using e3)
end
theorem tt_encE (e : Pe) : tt (encE e) = true := rfl
theorem nl_encE (e : Pe) : DL.noList (encE e) = true := by
  have h : ∀ l : List Int, DL.noListAll (l.map PyData.int) = true := by
    intro l
    induction l with
    | nil => rfl
    | cons a r ih => show (DL.noList (.int a) && DL.noListAll (r.map PyData.int)) = true; rw [ih]; rfl
  show (DL.noListAll (e.1.map PyData.int) && (DL.noList (.int e.2) && DL.noListAll [])) = true
  rw [h]; rfl
def rSortIt : List V → Hp → VK → Prop := fun vs H Q => ∃ (r q : Addr) (es : List Pe) (rk : Nat → Nat), vs = [V.ref r] ∧ H r = some (viewO r q) ∧ H q = some (.dT (kvT es)) ∧ es.length ≤ 1000 ∧
  (∀ i j x y, es[i]? = some x → es[j]? = some y → cmpD .Lt 3 (encE x) (encE y) = some (decide (rk i < rk j))) ∧
  ∀ (bs as : List Addr) (p : List Nat) (L : Addr), bs.length = es.length → (∀ (i : Nat) (b : Addr) (e : Pe), bs[i]? = some b → es[i]? = some e → H b = some (.tup (e.1.map V.int))) → as.length = es.length → as.Pairwise (· < ·) → (∀ a ∈ as, H a = none) → H L = none → L ∉ as → p.Perm (List.range es.length) → p.Pairwise (fun i j => rk i ≤ rk j) →
    Q (.ref L) (upd (layP H as bs es) L (.lst (p.map fun k => (as.map V.ref).getD k .non)))
theorem vals_refs : ∀ (as : List Addr), Vals (as.map V.ref) (as.map Value.ref)
  | [] => .nil
  | a :: r => .cons rfl (vals_refs r)
theorem reads_all {h : Heap} {ps : List (Value × Value)} {lo : Addr} : ∀ {as : List Addr} {es : List Pe}, as.length = es.length → (∀ (i : Nat) (a : Addr) (e : Pe), as[i]? = some a → es[i]? = some e → ∃ bs, Reads h (.ref a) (encE e) bs) → ∃ bs, ReadsAll h (as.map Value.ref) (es.map encE) bs
  | [], [], _, _ => ⟨[], .nil⟩
  | [], _ :: _, h, _ => by cases h
  | _ :: _, [], h, _ => by cases h
  | a :: as, e :: es, hl, hr => by
    obtain ⟨b1, r1⟩ := hr 0 a e rfl rfl
    obtain ⟨b2, r2⟩ := reads_all (ps := ps) (lo := lo) (as := as) (es := es) (by simpa using hl) fun i a' e' e1 e2 => hr (i + 1) a' e' (by simpa using e1) (by simpa using e2)
    exact ⟨_, .cons r1 r2⟩
end IT
set_option Elab.async false
set_option linter.all false
set_option maxRecDepth 100000
set_option maxHeartbeats 2000000
namespace IT
open PySem PySem.Spec PySem.Calls PyProof.Rows PyProof.Rows.G DS L2 TW
theorem readsAll_at {h : Heap} {as : List Addr} {es : List Pe} (hl : as.length = es.length) (hr : ∀ (i : Nat) (a : Addr) (e : Pe), as[i]? = some a → es[i]? = some e → ∃ bs, Reads h (.ref a) (encE e) bs) : ∃ bs, ReadsAll h (as.map Value.ref) (es.map encE) bs :=
  reads_all (ps := []) (lo := 0) hl hr
theorem reads_enc {P : Program} {w : World} {H : Hp} {h h' : Heap} {a b : Addr} {e : Pe} {t : Nat} (ok : HOk P w H h) (k : ∀ b o, h.get? b = some o → h'.get? b = some o) (hb : H b = some (.tup (e.1.map V.int))) (ha : h'.get? a = some { cls := .type "tuple", data := .seq #[.ref b, .int e.2 t] }) : ∃ bs, Reads h' (.ref a) (encE e) bs := by
  obtain ⟨_, its, v, o, ho, hc, n, hd⟩ := (show ObjOk P w H h b (.tup (e.1.map V.int)) from ok b _ hb)
  exact ⟨_, .tuple ha rfl rfl (.cons (as := []) (.tuple (k _ _ ho) hc hd (reads_ints v)) (.cons (.int _ _) .nil))⟩
theorem noLs_enc : ∀ es : List Pe, DL.noListAll (es.map encE) = true
  | [] => rfl
  | a :: r => by show (DL.noList (encE a) && DL.noListAll (r.map encE)) = true; rw [noLs_enc r, nl_encE]; rfl
section
variable {X : Cx}
theorem sortIt_core (hcalm : X.calm = true) (hu : X.A.units + 75 < cLine) {pins : List (Addr × Obj)} {s : Shared} {σ : L2.St} {H : Hp} {Q : VK} {r0 q : Addr} {es : List Pe} {rk : Nat → Nat} {ps : List (Value × Value)} {bs : List Addr} {ep : Nat} (I : Inv X pins σ H s) (hV : s.heap.IsItemsView r0 q) (hE : Ent s.heap q ps ep) (hpl : ps.length = es.length) (hbl : bs.length = es.length)
    (hget : ∀ (i : Nat) (x : Pe), es[i]? = some x → ∃ b t, bs[i]? = some b ∧ ps[i]? = some (.ref b, .int x.2 t) ∧ H b = some (.tup (x.1.map V.int))) (h1000 : es.length ≤ 1000)
    (hcmp : ∀ i j x y, es[i]? = some x → es[j]? = some y → cmpD .Lt 3 (encE x) (encE y) = some (decide (rk i < rk j)))
    (fin : ∀ (as : List Addr) (p : List Nat) (L : Addr), as.length = es.length → as.Pairwise (· < ·) → (∀ a ∈ as, H a = none) → H L = none → L ∉ as → p.Perm (List.range es.length) → p.Pairwise (fun i j => rk i ≤ rk j) →
      Q (.ref L) (upd (layP H as bs es) L (.lst (p.map fun k => (as.map V.ref).getD k .non)))) :
    wpAny (model X.prog X.w) X.A (call (.builtin "sorted") [.ref r0]) (EP X pins σ Q) X.xe s := by
  have hn : ps.length ≤ sizeLine := by rw [sizeLine_eq, hpl]; omega
  have at_ : ∀ {h1 : Heap} {as : List Addr}, as.length = ps.length → Prs ps s.heap.objs.size h1 as → ∀ (i : Nat) (a : Addr) (e : Pe), as[i]? = some a → es[i]? = some e → ∃ b t, bs[i]? = some b ∧ H b = some (.tup (e.1.map V.int)) ∧ h1.get? a = some { cls := .type "tuple", data := .seq #[.ref b, .int e.2 t] } := by
    intro h1 as hl hG i a e e1 e2
    obtain ⟨k, x, p1, p2⟩ := hG.at_ i a e1
    obtain ⟨b, t, b1, b2, b3⟩ := hget i e e2
    rw [p1] at b2
    obtain ⟨rfl, rfl⟩ : k = .ref b ∧ x = .int e.2 t := by simpa using b2
    exact ⟨b, t, b1, b3, p2⟩
  have rds : ∀ {h1 : Heap} {as : List Addr}, (∀ b o, s.heap.get? b = some o → h1.get? b = some o) → as.length = ps.length → Prs ps s.heap.objs.size h1 as → ∃ cs, ReadsAll h1 (as.map Value.ref) (es.map encE) cs := by
    intro h1 as k1 hl hG
    refine readsAll_at (by rw [hl, hpl]) fun i a e e1 e2 => ?_
    obtain ⟨b, t, _, b2, b3⟩ := at_ hl hG i a e e1 e2
    exact reads_enc I.hok k1 b2 b3
  have hT : (es.map encE).all tt = true := by
    rw [List.all_map]; exact List.all_eq_true.mpr fun e _ => tt_encE e
  have hN : DL.noListAll (es.map encE) = true := by
    exact noLs_enc es
  refine sorted_view (kd := tuples' false) (rk := rk) (I.ok.hd hcalm) hV hE hn (fun h1 as k1 hl hG h2 s' R k hR => ?_) (fun h1 as k1 hl hG s' k i j hi hj => ?_) fun h1 h' as tk p L e k1 hl hG hS k2 hp hso hL hat => ?_
  · obtain ⟨cs, ra⟩ := rds k1 hl hG
    obtain ⟨fs, f1, f2, f3⟩ := firsts_tt (keepRs k _ _ _ hN ra) hT
    refine PySem.W.kat_kind (T := Value.type "tuple") f1 (by rw [f2, List.length_map]; omega) (fun f hf => ?_) rfl hR
    obtain ⟨x, o, rfl, ho, hc⟩ := f3 f hf
    rw [← hc]
    exact (PySem.W.Looks.ld ho).andThen .now
  · obtain ⟨cs, ra⟩ := rds k1 hl hG
    have hi' : i < es.length := by rw [List.length_map] at hi; omega
    have hj' : j < es.length := by rw [List.length_map] at hj; omega
    obtain ⟨x, hx⟩ : ∃ x, es[i]? = some x := ⟨es[i]'hi', List.getElem?_eq_getElem _⟩
    obtain ⟨y, hy⟩ : ∃ y, es[j]? = some y := ⟨es[j]'hj', List.getElem?_eq_getElem _⟩
    obtain ⟨bs1, rx⟩ := DS.readsAll_get ra (List.getElem?_eq_getElem hi) (show (es.map encE)[i]? = some (encE x) by rw [List.getElem?_map, hx]; rfl)
    obtain ⟨cs1, ry⟩ := DS.readsAll_get ra (List.getElem?_eq_getElem hj) (show (es.map encE)[j]? = some (encE y) by rw [List.getElem?_map, hy]; rfl)
    have rx := keepR k _ _ _ (nl_encE x) rx
    have ry := keepR k _ _ _ (nl_encE y) ry
    have hc := hcmp i j x y hx hy
    generalize (as.map Value.ref)[i] = u at rx ⊢
    generalize (as.map Value.ref)[j] = v at ry ⊢
    have hc : (if SeqAt.shaped (encE x) = true ∧ SeqAt.shaped (encE y) = true then cmpAll .Lt (cmpD .Lt 2) [.tuple (x.1.map PyData.int), .int x.2] [.tuple (y.1.map PyData.int), .int y.2] else none) = some (decide (rk i < rk j)) := hc
    split at hc
    · rename_i hsh
      cases rx with
      | tuple o1 t1 d1 q1 =>
        cases ry with
        | tuple o2 t2 d2 q2 =>
          obtain ⟨c1, c2⟩ := canAll hsh.1
          obtain ⟨c3, _⟩ := canAll hsh.2
          have hu1 : X.A.in1.in1.units = X.A.units + 2 := rfl
          exact key_tup o1 d1 o2 d2 (cmpL_reads q1 q2 c1 c3 c2 (by omega) (fun x y v w as bs r _ _ b1 b2 hb => rc_reads (.inl rfl) 2 (by omega) b1 b2 hb) hc) ⟨rfl, rfl⟩
    · cases hc
  · have kk : ∀ b o, s.heap.get? b = some o → h'.get? b = some o := fun b o q => k2 b o (k1 b o q)
    have I1 : Inv X pins σ H { s with heap := h', toks := tk } := I.kept kk
    have hsz : ∀ a, s.heap.objs.size ≤ a → H a = none := fun a ha => I.hok.fresh ha
    have F : ∀ a, s.heap.objs.size ≤ a → a ≠ X.env.locals ∧ (∀ x c, X.env.cells.lookup x = some c → c ≠ a) ∧ ∀ p ∈ X.pn ++ pins, p.1 ≠ a := fun a ha => by
      obtain ⟨_, f1, _, _, f2, f3⟩ := I.fpOk (H' := H) ha (hsz a ha)
      exact ⟨f1, f2, f3⟩
    have abv : ∀ a ∈ as, s.heap.objs.size ≤ a := fun a ha => Nat.le_of_lt (hG.above a ha)
    have I2 := lay_inv (X := X) (pins := pins) (σ := σ) (lo := s.heap.objs.size) I.sz F (s := { s with heap := h', toks := tk }) (as := as) (bs := bs) (es := es) (H := H) I1 hG.rise (fun a ha => ⟨abv a ha, hsz a (abv a ha)⟩) (by rw [hl, hpl]) hbl fun i a b e e1 e2 e3 => by
      obtain ⟨b', t, b1, _, b3⟩ := at_ hl hG i a e e1 e3
      rw [e2] at b1
      obtain rfl : b = b' := by simpa using b1
      exact ⟨t, k2 _ _ b3⟩
    have hLs : s.heap.objs.size ≤ L := Nat.le_trans hS hL
    have hLn : L ∉ as := fun ha => absurd (Nat.lt_of_lt_of_le (hG.lt ha) hL) (Nat.lt_irrefl _)
    obtain ⟨f1, f2, f3⟩ := F L hLs
    have s0 : X.s_0.heap.get? L = none := by
      cases hq0 : X.s_0.heap.get? L with
      | none => rfl
      | some o => exact absurd (Nat.lt_of_lt_of_le (Heap.lt_size hq0) (Nat.le_trans I.sz hLs)) (Nat.lt_irrefl _)
    have hz : (p.map fun k => (as.map V.ref).getD k V.non).length ≤ sizeLine := by rw [List.length_map, hp.length_eq, List.length_range, hl]; exact hn
    refine ⟨.ref L, upd (layP H as bs es) L (.lst (p.map fun k => (as.map V.ref).getD k .non)), I2.track (by rw [layP_none hLn]; exact hsz L hLs) s0 f1 f2 f3 ⟨hz, p.map fun k => (as.map Value.ref).getD k .none, e, vals_pick p (vals_refs as), hat⟩, rfl, ?_⟩
    rw [hl, hpl] at hp
    exact fin as p L (by rw [hl, hpl]) hG.rise (fun a ha => hsz a (abv a ha)) (hsz L hLs) hLn hp hso
end
end IT
set_option Elab.async false
set_option linter.all false
set_option maxRecDepth 100000
set_option maxHeartbeats 2000000
namespace IT
open PySem PySem.Spec PySem.Calls PyProof.Rows PyProof.Rows.G DS L2 TW
abbrev Ae := List Int × Addr × Int
abbrev Ye := List Key × Addr × Value
def aRel (x : Ae) (y : Ye) : Prop := y.1 = x.1.map Sum.inl ∧ y.2.1 = x.2.1 ∧ ∃ t, y.2.2 = Value.int x.2.2 t
def extA (P : Program) (w : World) (q : Addr) (xs : List Ae) : HO := .ext fun h => (q == sysModules) = false ∧ xs.length ≤ sizeLine ∧ ∃ ys : List Ye, Paired aRel xs ys ∧ ∃ o es ep, h.get? q = some o ∧ o.ExactDict ∧ o.data = .dict es ep ∧ es.toList = ys.map (entryOfKey (tupleKind (mixKind P w))) ∧ (ys.map (·.1)).Nodup
def KeysA (H : Hp) (xs : List Ae) : Prop := ∀ x ∈ xs, H x.2.1 = some (.tup (x.1.map V.int))
def esA (xs : List Ae) : List Pe := xs.map fun x => (x.1, x.2.2)
def getA (xs : List Ae) (ks : List Int) : Option Int := (xs.find? fun x => decide (x.1 = ks)).map (·.2.2)
def storeA (xs : List Ae) (ks : List Int) (b : Addr) (n : Int) : List Ae :=
  if (xs.any fun x => decide (x.1 = ks)) = true then xs.map (fun x => if x.1 = ks then (x.1, x.2.1, n) else x) else xs ++ [(ks, b, n)]
theorem inl_inj : ∀ {a b : List Int}, a.map (Sum.inl : Int → Key) = b.map Sum.inl → a = b
  | [], [], _ => rfl
  | [], _ :: _, h => by cases h
  | _ :: _, [], h => by cases h
  | x :: a, y :: b, h => by
    rw [List.map_cons, List.map_cons] at h
    injection h with h1 h2
    injection h1 with h1
    rw [h1, inl_inj h2]
section
variable {xs : List Ae} {ys : List Ye}
theorem aRel.eq {x : Ae} {y : Ye} (h : aRel x y) (ks : List Int) : (y.1 = ks.map Sum.inl) ↔ x.1 = ks := by
  rw [h.1]; exact ⟨inl_inj, fun e => by rw [e]⟩
theorem find_rel (r : Paired aRel xs ys) (ks : List Int) : (atKey ys (ks.map Sum.inl) = none ∧ getA xs ks = none) ∨ ∃ b n t, atKey ys (ks.map Sum.inl) = some (b, .int n t) ∧ getA xs ks = some n := by
  induction r with
  | nil => exact .inl ⟨rfl, rfl⟩
  | @cons x y xs ys h t ih =>
    unfold atKey getA at ih ⊢
    rw [List.find?_cons, List.find?_cons]
    by_cases e : x.1 = ks
    · have e' : y.1 = ks.map Sum.inl := (h.eq ks).mpr e
      obtain ⟨_, h2, t, h3⟩ := h
      rw [decide_eq_true e, decide_eq_true e']
      refine .inr ⟨y.2.1, x.2.2, t, ?_, rfl⟩
      show some y.2 = some (y.2.1, Value.int x.2.2 t)
      rw [← h3]
    · have e' : ¬ y.1 = ks.map Sum.inl := fun z => e ((h.eq ks).mp z)
      rw [decide_eq_false e, decide_eq_false e']
      exact ih
theorem any_rel (r : Paired aRel xs ys) (ks : List Int) : (xs.any fun x => decide (x.1 = ks)) = (atKey ys (ks.map Sum.inl)).isSome := by
  induction r with
  | nil => rfl
  | @cons x y xs ys h t ih =>
    unfold atKey at ih ⊢
    rw [List.find?_cons, List.any_cons]
    by_cases e : x.1 = ks
    · rw [decide_eq_true e, decide_eq_true ((h.eq ks).mpr e)]; rfl
    · rw [decide_eq_false e, decide_eq_false (fun z => e ((h.eq ks).mp z)), Bool.false_or]; exact ih
theorem store_rel (r : Paired aRel xs ys) (ks : List Int) (b : Addr) (n : Int) (t : Nat) : Paired aRel (storeA xs ks b n) (storedH ys (ks.map Sum.inl) b (.int n t)) := by
  unfold storeA storedH
  rw [any_rel r ks]
  by_cases q : (atKey ys (ks.map Sum.inl)).isSome = true
  · rw [if_pos q, if_pos q]
    clear q
    induction r with
    | nil => exact .nil
    | @cons x y xs ys h tl ih =>
      rw [List.map_cons, List.map_cons]
      refine .cons ?_ ih
      unfold putAt
      by_cases e : x.1 = ks
      · rw [if_pos e, if_pos ((h.eq ks).mpr e)]; exact ⟨h.1, h.2.1, t, rfl⟩
      · rw [if_neg e, if_neg (fun z => e ((h.eq ks).mp z))]; exact h
  · rw [if_neg q, if_neg q]
    exact Paired.snoc r ⟨rfl, rfl, t, rfl⟩
theorem store_len (xs : List Ae) (ks : List Int) (b : Addr) (n : Int) : (storeA xs ks b n).length ≤ xs.length + 1 := by
  unfold storeA
  split
  · rw [List.length_map]; exact Nat.le_succ _
  · rw [List.length_append]; exact Nat.le_refl _
theorem KeysA.put {H : Hp} (h : KeysA H xs) {ks : List Int} {b : Addr} {n : Int} (hb : H b = some (.tup (ks.map V.int))) : KeysA H (storeA xs ks b n) := fun x hx => by
  unfold storeA at hx
  split at hx
  · obtain ⟨y, hy, rfl⟩ := List.mem_map.mp hx
    split
    · exact h y hy
    · exact h y hy
  · rcases List.mem_append.mp hx with hx | hx
    · exact h x hx
    · rw [List.mem_singleton.mp hx]; exact hb
end
section
variable {P : Program} {w : World} {H : Hp} {h : Heap} {q : Addr} {xs : List Ae}
theorem kt_of {ys : List Ye} (r : Paired aRel xs ys) (ka : KeysA H xs) : KT H (kvT (esA xs)) ys := by
  induction r with
  | nil => exact .nil
  | @cons x y xs ys h t ih =>
    refine .cons ⟨h.1.symm, ?_, ?_⟩ (ih fun z hz => ka z (List.mem_cons_of_mem _ hz))
    · show H y.2.1 = some (.tup ((x.1.map Sum.inl).map kV))
      rw [h.2.1, kv_ints]; exact ka x List.mem_cons_self
    · obtain ⟨_, _, t, ht⟩ := h
      exact ⟨t, ht⟩
theorem extA_of (ok : HOk P w H h) (e : H q = some (extA P w q xs)) (ka : KeysA H xs) : (q == sysModules) = false ∧ xs.length ≤ sizeLine ∧ ∃ ys, Paired aRel xs ys ∧ h.DictOfH (tupleKind (mixKind P w)) q ys := by
  obtain ⟨⟨hd, hz, ys, rel, o, es, ep, h1, h2, h3, h4, h5⟩, _⟩ := (show ObjOk P w H h q (extA P w q xs) from ok _ _ e)
  refine ⟨hd, hz, ys, rel, o, es, ep, h1, h2, h3, h4, fun x hx => ?_, h5⟩
  have all : ∀ {l : List (List Key × V)} {m : List Ye}, KT H l m → ∀ x ∈ m, (tupleKind (mixKind P w)).is h x.1 x.2.1 := by
    intro l m q
    induction q with
    | nil => intro x hx; exact nomatch hx
    | @cons p q ps qs hq t ih =>
      intro x hx
      rcases List.mem_cons.mp hx with e | hx
      · subst e
        exact key_of ok (by rw [← hq.1]; exact hq.2.1)
      · exact ih x hx
  exact all (kt_of rel ka) x hx
theorem extA_new {ys : List Ye} (hd : (q == sysModules) = false) (hz : xs.length ≤ sizeLine) (r : Paired aRel xs ys) (dd : h.DictOfH (tupleKind (mixKind P w)) q ys) : ObjOk P w H h q (extA P w q xs) := by
  obtain ⟨o, es, ep, h1, h2, h3, h4, _, h5⟩ := dd
  exact ⟨⟨hd, hz, ys, r, o, es, ep, h1, h2, h3, h4, h5⟩, ⟨o, h1⟩, fun a b ⟨hd, hz, ys, r, o, es, ep, h1, h2⟩ k => ⟨hd, hz, ys, r, o, es, ep, k o h1, h2⟩⟩
theorem extA_type {s : Shared} (ok : HOk P w H s.heap) (e : H q = some (extA P w q xs)) : s.TypeIs (.ref q) "dict" ∧ (∀ b, Value.ref q = .ref b → ∃ ob, s.heap.get? b = some ob ∧ ob.dict = none) ∧ (q == sysModules) = false := by
  obtain ⟨⟨hd, hz, ys, rel, o, es, ep, h1, h2, _⟩, _⟩ := (show ObjOk P w H s.heap q (extA P w q xs) from ok _ _ e)
  refine ⟨⟨o, h1, h2.1⟩, fun b z => ?_, hd⟩
  cases z
  exact ⟨o, h1, h2.2.1⟩
end
def tDNewA (P : Program) (w : World) : TE := fun _ H Q => ∀ p, H p = none → Q (.ref p) (upd H p (extA P w p []))
def tDGetA (P : Program) (w : World) (td ty tx : TE) : TE := fun σ H Q => td σ H fun x H1 => ∃ a, x = .ref a ∧ (∃ xs, H1 a = some (extA P w a xs)) ∧ ty σ H1 fun y H2 => tx σ H2 fun z H3 => ∃ xs ks b, H3 a = some (extA P w a xs) ∧ KeysA H3 xs ∧ y = .ref b ∧ H3 b = some (.tup (ks.map V.int)) ∧ Q (((getA xs ks).map V.int).getD z) H3
def sDPutA (P : Program) (w : World) (td ty tv : TE) : TS := fun D σ H => tv σ H fun v H1 => td σ H1 fun x H2 => ty σ H2 fun y H3 => ∃ a xs ks b n, x = .ref a ∧ H3 a = some (extA P w a xs) ∧ KeysA H3 xs ∧ y = .ref b ∧ H3 b = some (.tup (ks.map V.int)) ∧ v = .int n ∧ xs.length < sizeLine ∧ D.nx σ (upd H3 a (extA P w a (storeA xs ks b n)))
def tItA (P : Program) (w : World) (td : TE) : TE := fun σ H Q => td σ H fun x H1 => ∃ a xs, x = .ref a ∧ H1 a = some (extA P w a xs) ∧ ∀ r, H1 r = none → Q (.ref r) (upd H1 r (viewO r a))
section
variable {X : Cx} {pos apos cpos pos' : Pos} {o e f i value : Expr} {td ty tx tv : TE}
theorem pe_dnewA : PE X (.Dict [] [] pos) (tDNewA X.prog X.w) := .mk <| fun pins s σ H Q I h =>
  wpAny_Dict_empty ⟨.ref s.heap.objs.size, _, I.laid (a := s.heap.objs.size) (o := extA X.prog X.w s.heap.objs.size []) (t' := s.toks) (fun _ _ q => Heap.get?_push_of_some _ q) (Nat.le_refl _)
    ⟨⟨beq_eq_false_iff_ne.mpr (Ne.symm (Nat.ne_of_lt I.big)), Nat.zero_le _, [], .nil, _, #[], 0, Heap.get?_push_size _ rfl, ⟨rfl, rfl, rfl⟩, rfl, rfl, List.nodup_nil⟩, ⟨_, Heap.get?_push_size _ rfl⟩, fun a b ⟨hd, hz, ys, r, o, es, ep, h1, h2⟩ k => ⟨hd, hz, ys, r, o, es, ep, k o h1, h2⟩⟩, rfl, h _ (I.hok.fresh (Nat.le_refl _))⟩
theorem pe_dgetA (hu : X.A.units + 1 < cLine) (ho : PE X o td) (he : PE X e ty) (hf : PE X f tx) (m : M2 X o "get" apos e f cpos) : PE X (.Call (.Attribute o "get" apos) [e, f] [] cpos) (tDGetA X.prog X.w td ty tx) := by
  refine ⟨?_⟩
  intro pins s σ H Q I h
  refine wpAny_Call_method m.base m.few m.line PySem.F.plainAttrs_dict PySem.F.slot_dict_get PySem.F.type_dict_get (thn (ho pins s σ H _ I h) fun u s1 ⟨x, H1, I1, rx, a, ex, ⟨xs0, d⟩, q1⟩ => ?_)
  subst ex
  obtain rfl : u = Value.ref a := rx
  obtain ⟨t1, t2, _⟩ := extA_type I1.hok d
  refine ⟨t1, t2, ?_⟩
  rw [m.trees]
  refine Calls.callWith_builtin rfl (Calls.evalArgs_plain (Calls.spliced_cons (thn (he pins s1 σ H1 _ I1 q1) fun iv s2 ⟨y, H2, I2, ry, q2⟩ =>
    Calls.spliced_cons (thn (hf pins s2 σ H2 _ I2 q2) fun fv s3 ⟨z, H3, I3, rz, xs, ks, b, g, ka, ey, eb, q3⟩ => Calls.spliced_nil ?_))))
  subst ey
  cases (show iv = Value.ref b from ry)
  obtain ⟨hd, hz, ys, rel, dd⟩ := extA_of I3.hok g ka
  have eb' : H3 b = some (.tup ((ks.map Sum.inl : List Key).map kV)) := by rw [kv_ints]; exact eb
  refine call_meetsIn PySem.F.slot_dict_get dd.typeIs PySem.F.entry_dict_get (PySem.F.args_dict_get_3 _ _ _) (meetsH_dict_get_default (tupleKind (mixKind X.prog X.w)) a b hd fv) ⟨tupleKind_room_in1 hu, ks.map Sum.inl, ys, key_of I3.hok eb', dd, ?_⟩
  refine ⟨_, H3, I3.tok _, ?_, q3⟩
  rcases find_rel rel ks with ⟨e1, e2⟩ | ⟨b', n, t, e1, e2⟩
  · rw [e1, e2]; exact rz
  · rw [e1, e2]; exact ⟨t, rfl⟩
theorem ps_dputA (hu : X.A.units + 1 < cLine) (ho : PE X o td) (hi : PE X i ty) (hv : PE X value tv) (hs : swapsWith value (some (.Subscript o i pos')) pos.line X.env = pure false) :
    PS X (.Assign [.Subscript o i pos'] value pos) (sDPutA X.prog X.w td ty tv) := by
  refine ⟨?_⟩
  intro pins s σ H D I h
  refine wpAny_Assign_Subscript (thn (hv pins s σ H _ I h) fun r s1 ⟨v, H1, I1, rv, q1⟩ => thn (ho pins s1 σ H1 _ I1 q1) fun u s2 ⟨x, H2, I2, rx, q2⟩ => thn (hi pins s2 σ H2 _ I2 q2) fun iv s3 ⟨y, H3, I3, ry, a, xs, ks, b, n, ex, g, ka, ey, eb, ev, l, q3⟩ => ?_) hs
  subst ex ey ev
  obtain rfl : u = Value.ref a := rx
  cases (show iv = Value.ref b from ry)
  obtain ⟨t, rfl⟩ : ∃ t, r = Value.int n t := rv
  obtain ⟨hd, hz, ys, rel, dd⟩ := extA_of I3.hok g ka
  have eb' : H3 b = some (.tup ((ks.map Sum.inl : List Key).map kV)) := by rw [kv_ints]; exact eb
  have hz' : ys.length ≤ sizeLine := by rw [← Paired.length rel]; exact hz
  have hl : (storeA xs ks b n).length ≤ sizeLine := Nat.le_trans (store_len _ _ _ _) l
  refine wpAny_setItem_heap (hsz := hz') (tupleKind_room_in1 hu) (key_of I3.hok eb') dd fun h' dd' hs => ⟨σ, _, ?_, q3⟩
  have he : ∃ q, h'.get? a = some q := let ⟨q, _, _, hq, _⟩ := dd'; ⟨q, hq⟩
  exact d_write I3 (by rw [g]; exact True.intro) hs he (extA_new hd hl (store_rel rel ks b n t) dd')
theorem pe_itA (ho : PE X o td) (hbase : attributeBase o "items" X.env (eval o X.env) = eval o X.env := by rfl) (hline : (apos.endLine == cpos.line) = true := by rfl) :
    PE X (.Call (.Attribute o "items" apos) [] [] cpos) (tItA X.prog X.w td) := by
  refine ⟨?_⟩
  intro pins s σ H Q I h
  refine wpAny_Call_method0_late hbase hline (thn (ho pins s σ H _ I h) fun v s1 ⟨x, H1, I1, r1, a, xs, ex, e, q1⟩ => ?_)
  subst ex
  obtain rfl : v = Value.ref a := r1
  obtain ⟨t1, t2, hd⟩ := extA_type I1.hok e
  refine ⟨"dict", "dict.items", PySem.F.plainAttrs_dict, PySem.F.slot_dict_items, PySem.F.type_dict_items, t1, t2, Calls.callWith_builtin rfl (PySem.evalArgs_none ?_)⟩
  refine call_meetsIn PySem.F.slot_dict_items t1 PySem.F.entry_dict_items (PySem.F.args_dict_items_1 _) (meets_items a hd) ⟨t1, ?_⟩
  exact ⟨.ref s1.heap.objs.size, _, I1.laid (t' := s1.toks) (o := viewO s1.heap.objs.size a) (fun b o e => Heap.get?_push_of_some _ e) (Nat.le_refl _) ⟨⟨_, Heap.get?_push_size _ rfl, rfl, rfl⟩, ⟨_, Heap.get?_push_size _ rfl⟩, fun h1 h2 ⟨o, e1, e2⟩ k => ⟨o, k o e1, e2⟩⟩, rfl, q1 _ (I1.hok.fresh (Nat.le_refl _))⟩
end
end IT
set_option Elab.async false
set_option linter.all false
set_option maxRecDepth 100000
set_option maxHeartbeats 2000000
namespace IT
open PySem PySem.Spec PySem.Calls PyProof.Rows PyProof.Rows.G DS L2 TW
def rSortA (P : Program) (w : World) : List V → Hp → VK → Prop := fun vs H Q => ∃ (r q : Addr) (xs : List Ae) (rk : Nat → Nat), vs = [V.ref r] ∧ H r = some (viewO r q) ∧ H q = some (extA P w q xs) ∧ KeysA H xs ∧ xs.length ≤ 1000 ∧
  (∀ i j x y, (esA xs)[i]? = some x → (esA xs)[j]? = some y → cmpD .Lt 3 (encE x) (encE y) = some (decide (rk i < rk j))) ∧
  ∀ (as : List Addr) (p : List Nat) (L : Addr), as.length = xs.length → as.Pairwise (· < ·) → (∀ a ∈ as, H a = none) → H L = none → L ∉ as → p.Perm (List.range xs.length) → p.Pairwise (fun i j => rk i ≤ rk j) →
    Q (.ref L) (upd (layP H as (xs.map (·.2.1)) (esA xs)) L (.lst (p.map fun k => (as.map V.ref).getD k .non)))
theorem rel_get : ∀ {xs : List Ae} {ys : List Ye}, Paired aRel xs ys → ∀ (i : Nat) (x : Ae), xs[i]? = some x → ∃ t, (ys.map fun y => ((.ref y.2.1 : Value), y.2.2))[i]? = some (.ref x.2.1, .int x.2.2 t)
  | _, _, .nil, _, _, e => by simp at e
  | _, _, .cons h r, 0, x, e => by
    simp at e
    subst e
    obtain ⟨_, h2, t, h3⟩ := h
    refine ⟨t, ?_⟩
    rw [List.map_cons, List.getElem?_cons_zero, h2, h3]
  | _, _, .cons h r, i + 1, x, e => by
    obtain ⟨t, ht⟩ := rel_get r i x (by simpa using e)
    exact ⟨t, by simpa using ht⟩
section
variable {X : Cx}
theorem cr_sortA (hcalm : X.calm = true) (hu : X.A.units + 75 < cLine) : CallR X (.builtin "sorted") (rSortA X.prog X.w) := by
  intro pins s σ H vs us Q I r h
  obtain ⟨r0, q, xs, rk, rfl, hv, hq, ka, h1000, hcmp, fin⟩ := h
  rw [Vals.ref1 r]
  obtain ⟨hd, hz, ys, rel, o, es, ep, h1, h2, h3, h4, _⟩ := extA_of I.hok hq ka
  have hV : s.heap.IsItemsView r0 q := (show ObjOk X.prog X.w H s.heap r0 (viewO r0 q) from I.hok _ _ hv).1
  have hyl : ys.length = xs.length := (Paired.length rel).symm
  have hel : (esA xs).length = xs.length := List.length_map _
  refine sortIt_core hcalm hu (es := esA xs) (rk := rk) (bs := xs.map (·.2.1)) (ps := ys.map fun y => ((.ref y.2.1 : Value), y.2.2)) (ep := ep) I hV ⟨o, es, h1, h3, ?_⟩ (by rw [List.length_map, hyl, hel]) (by rw [List.length_map, hel]) (fun i x e => ?_) (by rw [hel]; exact h1000) hcmp (fun as p L a1 a2 a3 a4 a5 a6 a7 => fin as p L (by rw [a1, hel]) a2 a3 a4 a5 (by rw [hel] at a6; exact a6) a7)
  · rw [h4, List.map_map]; rfl
  · unfold esA at e
    rw [List.getElem?_map] at e
    obtain ⟨z, hz, rfl⟩ := Option.map_eq_some_iff.mp e
    obtain ⟨t, ht⟩ := rel_get rel i z hz
    exact ⟨z.2.1, t, by rw [List.getElem?_map, hz]; rfl, ht, ka z (List.mem_of_getElem? hz)⟩
end
end IT
set_option Elab.async false
set_option linter.all false
set_option maxRecDepth 100000
set_option maxHeartbeats 400000
namespace DL
open PySem L2
abbrev Ps := List IT.Pe
def putP (es : Ps) (ks : List Int) (n : Int) : Ps := if (es.any fun e => decide (e.1 = ks)) = true then es.map (fun e => if e.1 = ks then (e.1, n) else e) else es ++ [(ks, n)]
def getP (es : Ps) (ks : List Int) : Option Int := (es.find? fun e => decide (e.1 = ks)).map (·.2)
theorem esA_store (xs : List IT.Ae) (ks : List Int) (b : Addr) (n : Int) : IT.esA (IT.storeA xs ks b n) = putP (IT.esA xs) ks n := by
  unfold IT.storeA putP IT.esA
  rw [List.any_map]
  show _ = if (xs.any fun x => decide (x.1 = ks)) = true then _ else _
  split
  · rw [List.map_map, List.map_map]
    refine List.map_congr_left fun x _ => ?_
    show ((if x.1 = ks then (x.1, x.2.1, n) else x).1, (if x.1 = ks then (x.1, x.2.1, n) else x).2.2) = if x.1 = ks then (x.1, n) else (x.1, x.2.2)
    split <;> rfl
  · rw [List.map_append]; rfl
theorem esA_get (xs : List IT.Ae) (ks : List Int) : IT.getA xs ks = getP (IT.esA xs) ks := by
  unfold IT.getA getP IT.esA
  rw [List.find?_map, Option.map_map]
  rfl
section
variable {P : Program} {w : World} {W : Wd} {a i : Nat}
def QT (P : Program) (w : World) (W : Wd) (a : Nat) (q : Addr) (Ho Hr H Hs : Hp) (σ : St) (ρ : Env) (es : Ps) : Prop := ∃ xs, SR0 W Ho (upd Hr q (IT.extA P w q xs)) H Hs σ ρ ∧ σ[a]? = some (some (.ref q)) ∧ IT.KeysA Hs xs ∧ IT.esA xs = es
theorem keysA_mono {Hs Hs' : Hp} {xs : List IT.Ae} (s : Same Hs Hs') (h : IT.KeysA Hs xs) : IT.KeysA Hs' xs := fun x hx => s _ _ (h x hx)
abbrev Tp := (Ps → Env → Prop) → Ps → Env → Prop
def RB (P : Program) (w : World) (W : Wd) (a : Nat) (t : TS) (f : Tp) : Prop := ∀ D σ H Hs Ho Hr ρ q es (R : Ps → Env → Prop), Hr q = none → QT P w W a q Ho Hr H Hs σ ρ es → f R es ρ →
  (∀ σ' ρ' H' Hs' es', R es' ρ' → QT P w W a q Ho Hr H' Hs' σ' ρ' es' → Same Hs Hs' → D.nx σ' H') → t D σ H
def tKey (i : Nat) (ff : Env → Pp (List PyData)) (fe : Env → Pp PyData) : Tp := fun R es ρ => ff ρ fun vs => ∃ ns : List Int, vs = ns.map PyData.int ∧ (vs.length ≤ sizeLine ∧ i < ρ.length) ∧
  fe (ρ.set i (some (.dat (.tuple vs)))) fun d => ∃ j, d = .int j ∧ es.length < sizeLine ∧ R (putP es ns ((getP es ns).getD 0 + j)) (ρ.set i (some (.dat (.tuple vs))))
theorem dv_ints {K : PySem.W.Frag} {H : Hp} : ∀ {vs : List V} {ns : List Int}, DvAll K H vs (ns.map PyData.int) → vs = ns.map V.int
  | _, [], h => by cases h; rfl
  | _, n :: ns, h => by
    cases h with
    | cons a b => cases a; rw [dv_ints b]; rfl
theorem dv_ofInts {K : PySem.W.Frag} {H : Hp} : ∀ (ns : List Int), DvAll K H (ns.map V.int) (ns.map PyData.int)
  | [] => .nil
  | n :: ns => .cons (.int n) (dv_ofInts ns)
def rTup (K : PySem.W.Frag) : List V → Hp → VK → Prop := fun xs H Q => ∃ p ys, xs = [.ref p] ∧ ((SqL K H p ys ∧ ∀ l, H l = none → Q (.ref l) (upd H l (.tup ys))) ∨ (SqT K H p ys ∧ Q (.ref p) H))
theorem rb_key {te tl : TE} {ff : Env → Pp (List PyData)} {fe : Env → Pp PyData} (hl : RF W tl ff) (he : RE W te fe) (hai : a ≠ i) :
    RB P w W a (tSeq (tAsg (tCB (rTup W.K) (tCons tl tNil)) (gName i)) (tSeq (IT.sDPutA P w (tVar a) (tVar i) (tAdd (IT.tDGetA P w (tVar a) (tVar i) (tC (.int 0))) te)) tNext)) (tKey i ff fe) := fun D σ H Hs Ho Hr ρ q es R hr ⟨xs, s, hσ, ka, ees⟩ h k => by
  refine hl σ H Hs _ ρ _ _ s.g s.er h fun vs p us H1 Hs1 h1 hp g1 s1 z1 c1 => ?_
  obtain ⟨ns, rfl, ⟨hz, hi⟩, h1⟩ := h1
  have hus := dv_ints c1
  have hH1 : H1 p = some (.lst us) := by
    obtain ⟨_, j, _⟩ := g1
    exact j.visr _ _ upd_same
  refine ⟨p, us, rfl, .inl ⟨SqL.of hH1, fun l hl => ?_⟩⟩
  have hs1p : Hs1 p = none := g1.rnew upd_same
  have g1p := g1.pub hp
  have sm1 : Same Hs1 (upd Hs1 p (.lst us)) := Same.new hs1p
  have hnl : (upd Hs1 p (.lst us)) l = none := g1p.new hl
  have g2 := g1p.alloc (o := .tup us) hl
  have sm2 : Same (upd Hs1 p (.lst us)) (upd (upd Hs1 p (.lst us)) l (.tup us)) := Same.new hnl
  have sm := (s1.trans sm1).trans sm2
  have hl2 : (upd (upd Hs1 p (.lst us)) l (.tup us)) l = some (.tup (ns.map V.int)) := by rw [upd_same, hus]
  have hdv : Dv W.K (upd (upd Hs1 p (.lst us)) l (.tup us)) (.ref l) (.tuple (ns.map PyData.int)) := .tup (SqT.of hl2) (by rw [List.length_map] at hz ⊢; exact hz) (dv_ofInts ns)
  have s2 := (s.step g2 sm).sets (.cons (i := i) (CRel.of hdv) .nil)
  generalize upd (upd Hs1 p (.lst us)) l (.tup us) = Hs2 at g2 sm sm2 hl2 hdv s2
  generalize upd H1 l (.tup us) = H2 at g2 s2
  have hrq : ∀ {y : HO}, plus Ho (upd Hr q y) q = some y := fun {y} => by rw [plus_r (apart_q s.ap), upd_same]
  have hσ2 : (σ.set i (some (.ref l)))[a]? = some (some (.ref q)) := by rw [List.getElem?_set_ne (Ne.symm hai)]; exact hσ
  have hσi : (σ.set i (some (V.ref l)))[i]? = some (some (.ref l)) := List.getElem?_set_self (Nat.lt_of_lt_of_le hi s.er.len)
  have hH2 : ∀ {H3 Hs3 : Hp}, G W (plus Ho (upd Hr q (IT.extA P w q xs))) H3 Hs3 → H3 q = some (IT.extA P w q xs) := fun g => by
    obtain ⟨_, j, _⟩ := g
    exact j.visr _ _ hrq
  refine ⟨.ref q, hσ2, q, rfl, ⟨xs, hH2 g2⟩, .ref l, hσi, xs, ns, l, hH2 g2, fun x hx => g2.vis _ _ (sm _ _ (ka x hx)), rfl, g2.vis _ _ hl2, ?_⟩
  refine he _ H2 Hs2 _ _ _ _ s2.g s2.er h1 fun d v H3 Hs3 ⟨j, e, hlen, h3⟩ g3 s3 c3 => ?_
  subst e
  cases Dv.i_int c3
  obtain ⟨n0, en, en2⟩ : ∃ n0, ((IT.getA xs ns).map V.int).getD (.int 0) = .int n0 ∧ n0 = (getP es ns).getD 0 := by
    rw [esA_get, ees]
    cases getP es ns with
    | none => exact ⟨0, rfl, rfl⟩
    | some n => exact ⟨n, rfl, rfl⟩
  refine ⟨n0, j, en, rfl, .ref q, hσ2, .ref l, hσi, q, xs, ns, l, n0 + j, rfl, hH2 g3, fun x hx => g3.vis _ _ (s3 _ _ (sm _ _ (ka x hx))), rfl, g3.vis _ _ (s3 _ _ hl2), rfl, ?_, ?_⟩
  · rw [← ees] at hlen
    unfold IT.esA at hlen
    rw [List.length_map] at hlen
    exact hlen
  · subst en2
    have s4 := s2.step g3 s3
    obtain ⟨Hq, jj, z⟩ := g3
    have j' := jj.putr (o := IT.extA P w q (IT.storeA xs ns l ((getP es ns).getD 0 + j))) hrq
    rw [upd_plsr (apart_q s.ap)] at j'
    refine k _ _ _ Hs3 _ h3 ⟨_, ⟨apart_upd s.ap, ⟨Hq, j', z⟩, s4.er, s4.own⟩, hσ2, (keysA_mono (sm.trans s3) ka).put (s3 _ _ hl2), ?_⟩ (sm.trans s3)
    rw [esA_store, ees]
def forP (fg : PyData → Env → Pp Env) (fb : Tp) (R : Ps → Env → Prop) : List PyData → Ps → Env → Prop
  | [], es, ρ => R es ρ
  | d :: r, es, ρ => fg d ρ fun ρ' => fb (forP fg fb R r) es ρ'
theorem rb_for {wi : TI} {it : Env → Pp (List PyData)} {g : TG} {is : List Nat} {fg : PyData → Env → Pp Env} {tb : TS} {fb : Tp} (hi : RI W wi it) (hg : RG W g is fg) (hb : RB P w W a tb fb) (hn : a ∉ is) : RB P w W a (tFor wi g tb) (fun R es ρ => it ρ fun ds => forP fg fb R ds es ρ) := fun D σ H Hs Ho Hr ρ q es R hr ⟨xs, s, hσ, ka, ee⟩ h k => by
  refine hi σ H Hs _ ρ _ _ s.g s.er h fun ds I H1 Hs1 h1 g1 s1 ok => ?_
  refine ⟨fun i m σ H => m = ds.length - i ∧ i ≤ ds.length ∧ ∃ ρ Hs2 es, QT P w W a q Ho Hr H Hs2 σ ρ es ∧ Same Hs1 Hs2 ∧ forP fg fb R (ds.drop i) es ρ, ⟨_, rfl, Nat.zero_le _, ρ, Hs1, es, ⟨xs, s.step g1 s1, hσ, keysA_mono s1 ka, ee⟩, Same.refl _, h1⟩, ?_⟩
  rintro i m σ' H' ⟨rfl, hile, ρ', Hs2, es2, ⟨xs2, s2, hσ2, ka2, ee2⟩, q2, hgo⟩
  by_cases hlt : i < ds.length
  · obtain ⟨d, hd⟩ : ∃ d, ds[i]? = some d := ⟨ds[i], List.getElem?_eq_getElem hlt⟩
    refine .inr ⟨ok.go i _ H' Hs2 hlt s2.g q2, fun σ H => ds.length - (i + 1) = ds.length - (i + 1) ∧ i + 1 ≤ ds.length ∧ ∃ ρ Hs2 es, QT P w W a q Ho Hr H Hs2 σ ρ es ∧ Same Hs1 Hs2 ∧ forP fg fb R (ds.drop (i + 1)) es ρ, fun σ'' H'' z => ⟨ds.length - (i + 1), by omega, z⟩, fun x Hx y => ?_⟩
    obtain ⟨Hs3, d', g3, s3, hd', c3⟩ := ok.yld i _ H' Hs2 x Hx s2.g q2 hlt y
    rw [hd] at hd'
    cases hd'
    rw [drop_cons hd] at hgo
    refine hg x d σ' Hx Hs3 _ ρ' _ _ g3 c3 hgo fun σ3 ρ3 st hgo2 => ?_
    exact hb _ σ3 Hx Hs3 Ho Hr ρ3 q es2 _ hr ⟨xs2, (s2.step g3 s3).sets st, (sets_ne st hn).trans hσ2, keysA_mono s3 ka2, ee2⟩ hgo2 fun σ4 ρ4 H4 Hs4 es4 e r q => ⟨rfl, hlt, ρ4, Hs4, es4, r, (q2.trans s3).trans q, e⟩
  · have e : ds.drop i = [] := List.drop_eq_nil_of_le (by omega)
    rw [e] at hgo
    exact .inl ⟨ok.stop i _ H' Hs2 (by omega) s2.g q2, k σ' ρ' H' Hs2 es2 hgo ⟨xs2, s2, hσ2, ka2, ee2⟩ (s1.trans q2)⟩
theorem lay_J {Hq Hr : Hp} : ∀ {as bs : List Addr} {es : Ps} {H Hs : Hp}, J H Hs Hq Hr → as.Pairwise (· < ·) → (∀ a ∈ as, H a = none) → J (IT.layP H as bs es) (IT.layP Hs as bs es) Hq Hr := by
  intro as
  induction as with
  | nil => intro bs es H Hs j _ _; exact j
  | cons a as ih =>
    intro bs es H Hs j hp hf
    cases bs with
    | nil => exact j
    | cons b bs =>
      cases es with
      | nil => exact j
      | cons e es =>
        rw [List.pairwise_cons] at hp
        exact ih (j.alloc (hf a List.mem_cons_self)) hp.2 fun a' ha' => by
          rw [upd_ne (Nat.ne_of_gt (hp.1 a' ha'))]; exact hf a' (List.mem_cons_of_mem _ ha')
theorem lay_same {c : Addr} {u : HO} : ∀ {as bs : List Addr} {es : Ps} {H : Hp}, c ∉ as → H c = some u → IT.layP H as bs es c = some u := fun h e => by
  rw [IT.layP_none h]; exact e
theorem lay_at : ∀ {as bs : List Addr} {es : Ps} {H : Hp}, as.Pairwise (· < ·) → ∀ (i : Nat) (a b : Addr) (e : IT.Pe), as[i]? = some a → bs[i]? = some b → es[i]? = some e → IT.layP H as bs es a = some (.tup [.ref b, .int e.2]) := by
  intro as
  induction as with
  | nil => intro bs es H _ i a b e h; simp at h
  | cons a0 as ih =>
    intro bs es H hp i a b e h1 h2 h3
    cases bs with
    | nil => simp at h2
    | cons b0 bs =>
      cases es with
      | nil => simp at h3
      | cons e0 es =>
        rw [List.pairwise_cons] at hp
        cases i with
        | zero =>
          simp at h1 h2 h3
          subst h1 h2 h3
          show IT.layP (upd H a0 (.tup [.ref b0, .int e0.2])) as bs es a0 = _
          rw [IT.layP_none fun z => Nat.lt_irrefl _ (hp.1 _ z), upd_same]
        | succ i => exact ih hp.2 i a b e (by simpa using h1) (by simpa using h2) (by simpa using h3)
abbrev Tdp := En → Ps → Env → Prop
def RDP (P : Program) (w : World) (W : Wd) (a : Nat) (u : TS) (F : Tdp) : Prop := ∀ D σ H Hs Ho Hr ρ q es E, Hr q = none → QT P w W a q Ho Hr H Hs σ ρ es → F E es ρ → Ct W Hr Hs D E → u D σ H
theorem rdp_seq {t u : TS} {f : Tp} {F : Tdp} (h1 : RB P w W a t f) (h2 : RDP P w W a u F) : RDP P w W a (tSeq t u) (fun E es ρ => f (fun es' ρ' => F E es' ρ') es ρ) := fun D σ H Hs Ho Hr ρ q es E hr s h c =>
  h1 { D with nx := u D } σ H Hs Ho Hr ρ q es _ hr s h fun σ' ρ' H' Hs' es' e s' sm => h2 D σ' H' Hs' Ho Hr ρ' q es' E hr s' e (c.mono sm)
def retP (E : En) (es : Ps) : Prop := ∃ rk : Nat → Nat, (es.length ≤ 1000 ∧ ∀ e ∈ es, e.1.length ≤ sizeLine) ∧ (∀ i j x y, es[i]? = some x → es[j]? = some y → DS.cmpD .Lt 3 (IT.encE x) (IT.encE y) = some (decide (rk i < rk j))) ∧
  ∀ p : List Nat, p.Perm (List.range es.length) → p.Pairwise (fun i j => rk i ≤ rk j) → E.ro (p.map fun k => (es.map IT.encE).getD k .none)
theorem dv_picks {K : PySem.W.Frag} {H : Hp} {as : List Addr} {es : Ps} (hl : as.length = es.length) (h : ∀ (i : Nat) (a : Addr) (e : IT.Pe), as[i]? = some a → es[i]? = some e → Dv K H (.ref a) (IT.encE e)) : ∀ {p : List Nat}, (∀ k ∈ p, k < es.length) → DvAll K H (p.map fun k => (as.map V.ref).getD k .non) (p.map fun k => (es.map IT.encE).getD k .none)
  | [], _ => .nil
  | k :: p, hp => by
    refine .cons ?_ (dv_picks hl h fun k hk => hp k (List.mem_cons_of_mem _ hk))
    have h1 := hp k List.mem_cons_self
    have h2 : k < as.length := by rw [hl]; exact h1
    have := h k as[k] es[k] (List.getElem?_eq_getElem h2) (List.getElem?_eq_getElem h1)
    show Dv K H ((as.map V.ref).getD k .non) ((es.map IT.encE).getD k .none)
    rw [List.getD_eq_getElem?_getD, List.getD_eq_getElem?_getD, List.getElem?_map, List.getElem?_map, List.getElem?_eq_getElem h2, List.getElem?_eq_getElem h1]
    exact this
theorem rdp_ret : RDP P w W a (tRet (tCB (IT.rSortA P w) (tCons (IT.tItA P w (tVar a)) tNil))) (fun E es _ => retP E es) := fun D σ H Hs Ho Hr ρ q es E hr ⟨xs, s, hσ, ka, ee⟩ ⟨rk, ⟨h1000, hlen⟩, hcmp, ho⟩ c => by
  subst ee
  obtain ⟨gg, ss1, _, _⟩ := s.shown
  obtain ⟨Hq, j, z⟩ := gg
  have hHq : H q = some (IT.extA P w q xs) := j.visr _ _ upd_same
  have hsp : plus Hs Ho q = none := by
    rcases j.sr q with h | h
    · exact h
    · rw [upd_same] at h; cases h
  have sn : Same (plus Hs Ho) (upd (plus Hs Ho) q (IT.extA P w q xs)) := Same.new hsp
  have j2 := J.takes (o := IT.extA P w q xs) j hr
  rw [upd_id hHq] at j2
  have ss2 := ss1.trans sn
  generalize upd (plus Hs Ho) q (IT.extA P w q xs) = Hs2 at j2 ss2
  refine ⟨.ref q, hσ, q, xs, rfl, hHq, fun r hr0 => ?_⟩
  have hqr : q ≠ r := fun z => by rw [← z, hHq] at hr0; cases hr0
  have j3 := j2.alloc (o := IT.viewO r q) hr0
  have ss3 : Same Hs (upd Hs2 r (IT.viewO r q)) := ss2.trans (Same.new (j2.new hr0).1)
  generalize upd Hs2 r (IT.viewO r q) = Hs3 at j3 ss3
  have hel : (IT.esA xs).length = xs.length := List.length_map _
  refine ⟨r, q, xs, rk, rfl, upd_same, by rw [upd_ne hqr]; exact hHq, fun x hx => j3.vis _ _ (ss3 _ _ (ka x hx)), by rw [← hel]; exact h1000, hcmp, fun as p L a1 a2 a3 a4 a5 a6 a7 => ?_⟩
  have j4 := lay_J (bs := xs.map (·.2.1)) (es := IT.esA xs) j3 a2 a3
  have nm : ∀ {c : Addr} {u : HO}, Hs c = some u → c ∉ as := fun {c u} e hc => by
    have := j3.vis _ _ (ss3 _ _ e)
    rw [a3 c hc] at this; cases this
  have ss4 : Same Hs (IT.layP Hs3 as (xs.map (·.2.1)) (IT.esA xs)) := fun c u e => lay_same (nm e) (ss3 _ _ e)
  have hL : IT.layP (upd H r (IT.viewO r q)) as (xs.map (·.2.1)) (IT.esA xs) L = none := by rw [IT.layP_none a5]; exact a4
  have hrL : Hr L = none := (j4.new hL).2.2
  have hp : ∀ k ∈ p, k < (IT.esA xs).length := fun k hk => by
    rw [hel]; exact List.mem_range.mp (a6.mem_iff.mp hk)
  refine c.ro _ L _ _ (IT.layP Hs3 as (xs.map (·.2.1)) (IT.esA xs)) (ho p (by rw [hel]; exact a6) a7) hrL ⟨Hq, j4.allocr hL, z⟩ ss4 ?_ (dv_picks (by rw [a1, hel]) (fun i a e e1 e2 => ?_) hp)
  · rw [List.length_map, a6.length_eq, List.length_range, ← hel]; exact le_line h1000
  · have e2' := e2
    unfold IT.esA at e2'
    rw [List.getElem?_map] at e2'
    obtain ⟨x, hx, rfl⟩ := Option.map_eq_some_iff.mp e2'
    have hb : (xs.map (·.2.1))[i]? = some x.2.1 := by rw [List.getElem?_map, hx]; rfl
    have h1 := lay_at (H := Hs3) a2 i a x.2.1 _ e1 hb e2
    have h2 := ss4 _ _ (ka x (List.mem_of_getElem? hx))
    exact .tup (SqT.of h1) (by show 2 ≤ sizeLine; decide) (.cons (.tup (SqT.of h2) (by rw [List.length_map]; exact hlen _ (List.mem_of_getElem? e2)) (dv_ofInts _)) (.cons (.int _) .nil))
def sMadeP (a : Nat) (F : Tdp) : Sm := fun E ρ => a < ρ.length ∧ F E [] (ρ.set a none)
theorem qt_new {Ho Hr H Hs : Hp} {σ : St} {ρ : Env} {p : Addr} (s : SR0 W Ho Hr H Hs σ ρ) (ha : a < ρ.length) (hp : H p = none) : Hr p = none ∧ QT P w W a p Ho Hr (upd H p (IT.extA P w p [])) Hs (σ.set a (some (.ref p))) (ρ.set a none) [] := by
  have hl := s.er.len
  have hs : Hs p = none := s.g.new hp
  have hpr : plus Ho Hr p = none := s.g.newr hp
  have hop : Ho p = none := by
    cases e : Ho p with
    | none => rfl
    | some o => rw [plus_l e] at hpr; cases hpr
  have hrp : Hr p = none := by rw [plus_r hop] at hpr; exact hpr
  have g1 := s.g.allocr (o := IT.extA P w p []) hp
  rw [upd_plsr0 hop] at g1
  refine ⟨hrp, [], ⟨fun b => ?_, g1, ⟨by rw [List.length_set, List.length_set]; exact hl, fun i d e => ?_⟩, ⟨s.own.lst, fun i ds e => ?_, fun i j ds es q e1 e2 q1 q2 => ?_⟩⟩, List.getElem?_set_self (by omega), (fun x hx => nomatch hx), rfl⟩
  · by_cases e : b = p
    · subst e; exact .inl hop
    · rw [upd_ne e]; exact s.ap b
  · obtain ⟨hi, e⟩ := set_none_dat e
    obtain ⟨v, e1, e2⟩ := s.er.get i d e
    exact ⟨v, by rw [List.getElem?_set_ne fun z => hi z.symm]; exact e1, e2⟩
  · obtain ⟨hi, e⟩ := set_none_own e
    obtain ⟨q, xs, e1, e2⟩ := s.own.get i ds e
    exact ⟨q, xs, by rw [List.getElem?_set_ne hi]; exact e1, e2⟩
  · obtain ⟨hi, e1⟩ := set_none_own e1
    obtain ⟨hj, e2⟩ := set_none_own e2
    rw [List.getElem?_set_ne hi] at q1
    rw [List.getElem?_set_ne hj] at q2
    exact s.own.one i j ds es q e1 e2 q1 q2
theorem rs_madeP {u : TS} {F : Tdp} (h1 : RDP P w W a u F) : RS W (tSeq (tAsg (IT.tDNewA P w) (gName a)) u) (sMadeP a F) := fun D σ H Hs Hr ρ E s h c => by
  obtain ⟨Ho, s⟩ := s
  obtain ⟨ha, h⟩ := h
  intro p hp
  obtain ⟨hr, qs⟩ := qt_new s ha hp
  exact h1 D _ _ Hs Ho Hr _ p [] E hr qs h c
end
end DL
set_option Elab.async false
set_option linter.all false
set_option maxRecDepth 100000
set_option maxHeartbeats 400000
namespace DL
open PySem L2
def madeF (it : Env → Pp (List PyData)) (fg : PyData → Env → Pp Env) (i : Nat) (ff : Env → Pp (List PyData)) (fe : Env → Pp PyData) : Tdp := fun E es ρ => it ρ fun ds => forP fg (tKey i ff fe) (fun es' _ => retP E es') ds es ρ
section
variable {κ : Kx} {tg iter e1 e2 : Expr} {it : Env → Pp (List PyData)} {fg : PyData → Env → Pp Env} {is : List Nat} {ff : Env → Pp (List PyData)} {fe : Env → Pp PyData} {x y : Str} {j : Nat} {px pd p0 py pt pc p1 pa pb pk pg ps p2 p3 p4 p5 p6 p7 p8 p9 q1 q2 q3 q4 pf : Pos}
theorem xss_madeP (a i : Nat) (ht : κ.mg "tuple" = none) (hso : κ.mg "sorted" = none) (hi : XI κ tg iter it) (hg : XG κ tg is fg) (hl : XF κ e1 ff) (he : XE κ e2 fe)
    (hai : a ≠ i := by decide) (hn : a ∉ is := by decide) (hN : κ.N[a]? = some x := by rfl) (hNi : κ.N[i]? = some y := by rfl)
    (hx : κ.nm.lookup x = some .local := by rfl) (hy : κ.nm.lookup y = some .local := by rfl) (hgt : κ.nm.lookup ("tuple" : Str) = some .globalImplicit := by rfl) (hgs : κ.nm.lookup ("sorted" : Str) = some .globalImplicit := by rfl)
    (hdx : (x == ("__debug__" : Str)) = false := by decide) (hcx : (x == ("__classdict__" : Str)) = false := by decide) (hdy : (y == ("__debug__" : Str)) = false := by decide) (hcy : (y == ("__classdict__" : Str)) = false := by decide)
    (hs0 : ∀ env : PySem.Env, swapsWith (.Dict [] [] pd) (some (.Name x px)) p0.line env = pure false := by intro _; rfl)
    (hsf : ∀ (env : PySem.Env) z, foldedSetIterable iter env z = pure z := by intro _ _; rfl)
    (hs1 : ∀ env : PySem.Env, swapsWith (.Call (.Name "tuple" pt) [e1] [] pc) (some (.Name y py)) p1.line env = pure false := by intro _; rfl)
    (hst : ∀ env : PySem.Env, starEach [e1] env = (false, eval e1 env) :: starEach [] env := by intro _; rfl)
    (hs2 : ∀ env : PySem.Env, swapsWith (.BinOp (.Call (.Attribute (.Name x p3) "get" pa) [.Name y p4, .Constant (.int 0) j pk] [] pg) .Add e2 pb) (some (.Subscript (.Name x p5) (.Name y p6) ps)) p2.line env = pure false := by intro _; rfl)
    (m1 : (pa.endLine == pg.line) = true := by rfl) (m2 : (q2.endLine == q3.line) = true := by rfl) :
    XSs κ [.Assign [.Name x px] (.Dict [] [] pd) p0,
      .For tg iter [.Assign [.Name y py] (.Call (.Name "tuple" pt) [e1] [] pc) p1, .Assign [.Subscript (.Name x p5) (.Name y p6) ps] (.BinOp (.Call (.Attribute (.Name x p3) "get" pa) [.Name y p4, .Constant (.int 0) j pk] [] pg) .Add e2 pb) p2] [] pf,
      .Return (some (.Call (.Name "sorted" q1) [.Call (.Attribute (.Name x p7) "items" q2) [] [] q3] [] q4)) p8]
      (sMadeP a (madeF it fg i ff fe)) := by
  obtain ⟨wi, i1, i2⟩ := hi
  obtain ⟨g, g1, g2⟩ := hg
  obtain ⟨tl, l1, l2⟩ := hl
  obtain ⟨te, t1, t2⟩ := he
  refine ⟨tSeq (tAsg (IT.tDNewA κ.P κ.w) (gName a)) (tSeq (tFor wi g (tSeq (tAsg (tCB (rTup κ.K) (tCons tl tNil)) (gName i)) (tSeq (IT.sDPutA κ.P κ.w (tVar a) (tVar i) (tAdd (IT.tDGetA κ.P κ.w (tVar a) (tVar i) (tC (.int 0))) te)) tNext))) (tRet (tCB (IT.rSortA κ.P κ.w) (tCons (IT.tItA κ.P κ.w (tVar a)) tNil)))), fun X h => ?_, fun d Pt hF => ?_⟩
  · have hun : X.A.units + 1 < cLine := by have := h.room.un; omega
    have hva : ∀ {p : Pos}, PE X (.Name x p) (tVar a) := fun {p} => pe_var (by rw [h.nn]; exact hN) (vis_of h (.inl hx)) hdx hcx
    have hvi : ∀ {p : Pos}, PE X (.Name y p) (tVar i) := fun {p} => pe_var (by rw [h.nn]; exact hNi) (vis_of h (.inl hy)) hdy hcy
    refine pss_cons (ps_set_of (κ := κ) (fun X h => by rw [← h.prog, ← h.wd]; exact IT.pe_dnewA) hN (.inl hx) (.inr hx) hs0 X h) (pss_cons (ps_for (by rw [h.xe]; exact PassesOwn.never) h.calm (i1 X h) (g1 X h) ?_ (hsf _)) (pss_one (ps_ret ?_)))
    · refine pss_cons (ps_set_of (κ := κ) (fun X h => ?_) hNi (.inl hy) (.inr hy) hs1 X h) (pss_cons ?_ pss_nil)
      · have hq := pe_callTy (X := X) (p := pt) (pos := pc) (x := "tuple") (es := []) call_tuple_of (gl_of h hgt) (by rw [h.mg]; exact ht) (by decide +kernel) (pa_cons (l1 X h) pa_nil (hs := hst _)) (by decide) (by decide) (hst _) rfl
        rw [h.kk] at hq
        exact hq
      · have hq := IT.ps_dputA (pos := p2) (pos' := ps) hun (hva (p := p5)) (hvi (p := p6)) (pe_add (pos := pb) (IT.pe_dgetA (apos := pa) (cpos := pg) hun (hva (p := p3)) (hvi (p := p4)) (pe_int (i := 0) (j := j) (pos := pk)) ⟨rfl, rfl, m1, rfl⟩) (t1 X h)) (hs2 _)
        rw [h.prog, h.wd] at hq
        exact hq
    · have hq := pe_callB (X := X) (p := q1) (pos := q4) (x := "sorted") (es := []) (IT.cr_sortA h.calm (by have := h.room.un; omega)) (gl_of h hgs) (by rw [h.mg]; exact hso) (by decide +kernel) (pa_cons (IT.pe_itA (apos := q2) (cpos := q3) (hva (p := p7)) rfl m2) pa_nil) (by decide) (by decide) rfl rfl
      rw [h.prog, h.wd] at hq
      exact hq
  · exact rs_madeP (P := κ.P) (w := κ.w) (rdp_seq (rb_for (i2 d Pt hF) (g2 d Pt hF) (rb_key (l2 d Pt hF) (t2 d Pt hF) hai) hn) rdp_ret)
end
section
variable {it : Env → Pp (List PyData)} {fg : PyData → Env → Pp Env} {ff : Env → Pp (List PyData)} {fe : Env → Pp PyData} {E : En} {ρ : Env} {a i : Nat} {es : Ps} {F : Tdp} {R : Ps → Env → Prop}
@[simp] theorem s_sMadeP : sMadeP a F E ρ = (a < ρ.length ∧ F E [] (ρ.set a none)) := rfl
@[simp] theorem s_madeF : madeF it fg i ff fe E es ρ = it ρ fun ds => forP fg (tKey i ff fe) (fun es' _ => retP E es') ds es ρ := rfl
@[simp] theorem s_tKey : tKey i ff fe R es ρ = ff ρ fun vs => ∃ ns : List Int, vs = ns.map PyData.int ∧ (vs.length ≤ sizeLine ∧ i < ρ.length) ∧
  fe (ρ.set i (some (.dat (.tuple vs)))) fun d => ∃ j, d = .int j ∧ es.length < sizeLine ∧ R (putP es ns ((getP es ns).getD 0 + j)) (ρ.set i (some (.dat (.tuple vs)))) := rfl
end
end DL
set_option Elab.async false
set_option linter.all false
set_option maxRecDepth 100000
set_option maxHeartbeats 400000
namespace DL
open PySem L2
section
variable {fa fb fc fe : Env → Pp PyData} {fs : Env → Pp (List PyData)} {ft f1 f2 : Env → Pp Bool} {fl fh : Env → Pp (Option Int)} {ρ : Env} {E : En} {f g : Sm}
@[simp] theorem s_ret {α : Type} {a : α} {Q : α → Prop} : ret a Q = Q a := rfl
@[simp] theorem s_fail {α : Type} {Q : α → Prop} : (fail : Pp α) Q = False := rfl
@[simp] theorem s_bnd {α β : Type} {m : Pp α} {k : α → Pp β} {Q : β → Prop} : bnd m k Q = m fun a => k a Q := rfl
@[simp] theorem s_ofO {α : Type} {a : α} {Q : α → Prop} : ofO (some a) Q = Q a := rfl
@[simp] theorem s_ofN {α : Type} {Q : α → Prop} : ofO (none : Option α) Q = False := rfl
@[simp] theorem s_var {i : Nat} {Q : PyData → Prop} : eVar i ρ Q = ofO (datAt ρ i) Q := rfl
@[simp] theorem s_C {d : PyData} {Q : PyData → Prop} : eC d ρ Q = Q d := rfl
@[simp] theorem s_op {o : PyData → PyData → Option PyData} {Q : PyData → Prop} : eOp o fa fb ρ Q = fa ρ fun a => fb ρ fun b => ofO (o a b) Q := rfl
@[simp] theorem s_un {o : PyData → Option PyData} {Q : PyData → Prop} : eUn o fa ρ Q = fa ρ fun a => ofO (o a) Q := rfl
@[simp] theorem s_chain {o o' : PyData → PyData → Option PyData} {Q : PyData → Prop} : eChain o o' fa fb fc ρ Q = fa ρ fun a => fb ρ fun b => ofO (o a b) fun k => match k with
  | .bool true => fc ρ fun c => ofO (o' b c) Q
  | .bool false => Q (.bool false)
  | _ => False := by
  show (fa ρ fun a => fb ρ fun b => ofO (o a b) fun k => (match k with
    | .bool true => bnd (fc ρ) fun c => ofO (o' b c)
    | .bool false => ret (.bool false)
    | _ => fail : Pp PyData) Q) = _
  refine congrArg (fa ρ) (funext fun a => congrArg (fb ρ) (funext fun b => congrArg (ofO (o a b)) (funext fun k => ?_)))
  cases k with
  | bool b => cases b <;> rfl
  | _ => rfl
@[simp] theorem s_and {Q : PyData → Prop} : eAnd fa fb ρ Q = tBool fa ρ fun a => if a = true then fb ρ Q else Q (.bool false) := by
  show (tBool fa ρ fun a => (if a = true then fb ρ else ret (.bool false)) Q) = _
  exact congrArg (tBool fa ρ) (funext fun a => by cases a <;> rfl)
@[simp] theorem s_or {Q : PyData → Prop} : eOr fa fb ρ Q = tBool fa ρ fun a => if a = true then Q (.bool true) else fb ρ Q := by
  show (tBool fa ρ fun a => (if a = true then ret (.bool true) else fb ρ) Q) = _
  exact congrArg (tBool fa ρ) (funext fun a => by cases a <;> rfl)
@[simp] theorem s_not {Q : PyData → Prop} : eNot fa ρ Q = tBool fa ρ fun a => Q (.bool (!a)) := rfl
def boolK (d : PyData) (Q : Bool → Prop) : Prop := match d with | .bool b => Q b | _ => False
@[simp] theorem s_boolK {b : Bool} {Q : Bool → Prop} : boolK (.bool b) Q = Q b := rfl
@[simp] theorem s_tBool {Q : Bool → Prop} : tBool fa ρ Q = fa ρ fun a => boolK a Q := by
  show (fa ρ fun a => (match a with | .bool b => ret b | _ => fail : Pp Bool) Q) = _
  exact congrArg (fa ρ) (funext fun a => by cases a <;> rfl)
@[simp] theorem s_tTru {Q : Bool → Prop} : tTru fa ρ Q = fa ρ fun a => ofO (truD a) Q := rfl
@[simp] theorem s_tAnd {Q : Bool → Prop} : tAndP f1 f2 ρ Q = f1 ρ fun a => if a = true then f2 ρ Q else Q false := by
  show (f1 ρ fun a => (if a = true then f2 ρ else ret false) Q) = _
  exact congrArg (f1 ρ) (funext fun a => by cases a <;> rfl)
@[simp] theorem s_tOr {Q : Bool → Prop} : tOrP f1 f2 ρ Q = f1 ρ fun a => if a = true then Q true else f2 ρ Q := by
  show (f1 ρ fun a => (if a = true then ret true else f2 ρ) Q) = _
  exact congrArg (f1 ρ) (funext fun a => by cases a <;> rfl)
@[simp] theorem s_tNot {Q : Bool → Prop} : tNotP f1 ρ Q = f1 ρ fun a => Q (!a) := rfl
@[simp] theorem s_if {Q : PyData → Prop} : eIf f1 fa fb ρ Q = f1 ρ fun c => if c = true then fa ρ Q else fb ρ Q := by
  show (f1 ρ fun a => (if a = true then fa ρ else fb ρ) Q) = _
  exact congrArg (f1 ρ) (funext fun a => by cases a <;> rfl)
@[simp] theorem s_aNil {Q : List PyData → Prop} : aNil ρ Q = Q [] := rfl
@[simp] theorem s_aCons {Q : List PyData → Prop} : aCons fa fs ρ Q = fa ρ fun a => fs ρ fun as => Q (a :: as) := rfl
@[simp] theorem s_aInts {ns : List Int} {Q : List PyData → Prop} : aInts ns ρ Q = Q (ns.map PyData.int) := rfl
@[simp] theorem s_tup {Q : PyData → Prop} : eTup fs ρ Q = fs ρ fun ds => ofO (dTup ds) Q := rfl
@[simp] theorem s_eL {f : Env → Pp (List PyData)} {Q : PyData → Prop} : eL f ρ Q = f ρ fun ds => Q (.list ds) := rfl
@[simp] theorem s_fLst {Q : List PyData → Prop} : fLst fs ρ Q = fs ρ fun ds => (ds.all noPot = true ∧ ds.length ≤ sizeLine) ∧ Q ds := rfl
@[simp] theorem s_eCB {o : List PyData → Option PyData} {Q : PyData → Prop} : eCB o fs ρ Q = fs ρ fun ds => ofO (o ds) Q := rfl
@[simp] theorem s_call {g : List PyData → Pp PyData} {Q : PyData → Prop} : eCall g fs ρ Q = fs ρ fun ds => g ds Q := rfl
@[simp] theorem s_gP {g : List PyData → Pp PyData} {ds : List PyData} {Q : PyData → Prop} : gP g ds Q = (ds.all noPot = true ∧ g ds Q) := rfl
@[simp] theorem s_callF {g : List PyData → Pp (List PyData)} {Q : List PyData → Prop} : eCallF g fs ρ Q = fs ρ fun ds => g ds Q := rfl
@[simp] theorem s_gPF {g : List PyData → Pp (List PyData)} {ds : List PyData} {Q : List PyData → Prop} : gPF g ds Q = (ds.all noPot = true ∧ g ds Q) := rfl
@[simp] theorem s_isi {T : String} {Q : PyData → Prop} : eIsi T fa ρ Q = fa ρ fun a => noPot a = true ∧ Q (.bool (isiA (tyD a) T)) := rfl
@[simp] theorem s_isiLT {Q : PyData → Prop} : eIsiLT fa ρ Q = fa ρ fun a => noPot a = true ∧ Q (.bool (tyD a == "list" || tyD a == "tuple")) := rfl
@[simp] theorem s_sl {Q : PyData → Prop} : eSl fa fl fh ρ Q = fa ρ fun a => fl ρ fun l => fh ρ fun h => ofO (dSl a l h) Q := rfl
@[simp] theorem s_oNo {Q : Option Int → Prop} : oNo ρ Q = Q none := rfl
def intK (d : PyData) (Q : Int → Prop) : Prop := match d with | .int b => Q b | _ => False
@[simp] theorem s_intK {b : Int} {Q : Int → Prop} : intK (.int b) Q = Q b := rfl
@[simp] theorem s_oSo {Q : Option Int → Prop} : oSo fa ρ Q = fa ρ fun a => intK a fun i => Q (some i) := by
  show (fa ρ fun a => (match a with | .int i => ret (some i) | _ => fail : Pp (Option Int)) Q) = _
  exact congrArg (fa ρ) (funext fun a => by cases a <;> rfl)
@[simp] theorem s_iSeq {Q : List PyData → Prop} : iSeq fa ρ Q = fa ρ fun a => ofO (itemsD a) Q := rfl
def r1K (ds : List PyData) (Q : List PyData → Prop) : Prop := match ds with
  | [.int j] => (-(2 ^ 62) ≤ j ∧ j ≤ sizeLine) ∧ Q (rangeD 0 j.toNat)
  | _ => False
theorem s_r1K {j : Int} {Q : List PyData → Prop} : r1K [.int j] Q = ((-(2 ^ 62) ≤ j ∧ j ≤ sizeLine) ∧ Q (rangeD 0 j.toNat)) := rfl
@[simp] theorem s_iR1 {Q : List PyData → Prop} : iR1 fs ρ Q = fs ρ fun ds => r1K ds Q := by
  show (fs ρ fun ds => (match ds with
  | [.int j] => if -(2 ^ 62) ≤ j ∧ j ≤ sizeLine then ret (rangeD 0 j.toNat) else fail
  | _ => fail : Pp (List PyData)) Q) = _
  refine congrArg (fs ρ) (funext fun ds => ?_)
  unfold r1K
  split
  · by_cases h : -(2 ^ 62) ≤ ‹Int› ∧ ‹Int› ≤ sizeLine
    · rw [if_pos h]; exact propext ⟨fun q => ⟨h, q⟩, fun q => q.2⟩
    · rw [if_neg h]; exact propext ⟨fun q => q.elim, fun q => absurd q.1 h⟩
  · rfl
def r2K (ds : List PyData) (Q : List PyData → Prop) : Prop := match ds with
  | [.int i, .int j] => (-(2 ^ 62) ≤ i ∧ i < 2 ^ 62 ∧ -(2 ^ 62) ≤ j ∧ j < 2 ^ 62 ∧ j - i ≤ sizeLine) ∧ Q (rangeD i (j - i).toNat)
  | _ => False
theorem s_r2K {i j : Int} {Q : List PyData → Prop} : r2K [.int i, .int j] Q = ((-(2 ^ 62) ≤ i ∧ i < 2 ^ 62 ∧ -(2 ^ 62) ≤ j ∧ j < 2 ^ 62 ∧ j - i ≤ sizeLine) ∧ Q (rangeD i (j - i).toNat)) := rfl
@[simp] theorem s_iR2 {Q : List PyData → Prop} : iR2 fs ρ Q = fs ρ fun ds => r2K ds Q := by
  show (fs ρ fun ds => (match ds with
  | [.int i, .int j] => if -(2 ^ 62) ≤ i ∧ i < 2 ^ 62 ∧ -(2 ^ 62) ≤ j ∧ j < 2 ^ 62 ∧ j - i ≤ sizeLine then ret (rangeD i (j - i).toNat) else fail
  | _ => fail : Pp (List PyData)) Q) = _
  refine congrArg (fs ρ) (funext fun ds => ?_)
  unfold r2K
  split
  · rename_i i j
    by_cases h : -(2 ^ 62) ≤ i ∧ i < 2 ^ 62 ∧ -(2 ^ 62) ≤ j ∧ j < 2 ^ 62 ∧ j - i ≤ sizeLine
    · rw [if_pos h]; exact propext ⟨fun q => ⟨h, q⟩, fun q => q.2⟩
    · rw [if_neg h]; exact propext ⟨fun q => q.elim, fun q => absurd q.1 h⟩
  · rfl
theorem sizeL {j : Int} (h : j ≤ 100000) : j ≤ (sizeLine : Int) := Int.le_trans h (by rw [line_eq]; decide)
theorem r1_small {j : Int} {Q : List PyData → Prop} (h1 : -100000 ≤ j) (h2 : j ≤ 100000) : r1K [.int j] Q = Q (rangeD 0 j.toNat) := by
  rw [s_r1K]
  exact propext ⟨fun q => q.2, fun q => ⟨⟨by omega, sizeL h2⟩, q⟩⟩
theorem r2_small {i j : Int} {Q : List PyData → Prop} (h1 : -50000 ≤ i) (h2 : i ≤ 50000) (h3 : -50000 ≤ j) (h4 : j ≤ 50000) : r2K [.int i, .int j] Q = Q (rangeD i (j - i).toNat) := by
  rw [s_r2K]
  exact propext ⟨fun q => q.2, fun q => ⟨⟨by omega, by omega, by omega, by omega, sizeL (by omega)⟩, q⟩⟩
def trK (ds : List PyData) (Q : PyData → Prop) : Prop := match ds with
  | [.int j] => (0 ≤ j ∧ j ≤ 1000) ∧ Q (.tuple (rangeD 0 j.toNat))
  | _ => False
@[simp] theorem s_trK {j : Int} {Q : PyData → Prop} : trK [.int j] Q = ((0 ≤ j ∧ j ≤ 1000) ∧ Q (.tuple (rangeD 0 j.toNat))) := rfl
@[simp] theorem s_eTR {Q : PyData → Prop} : eTR fs ρ Q = fs ρ fun ds => trK ds Q := by
  show (fs ρ fun ds => (match ds with
  | [.int j] => fun Q => (0 ≤ j ∧ j ≤ 1000) ∧ Q (.tuple (rangeD 0 j.toNat))
  | _ => fail : Pp PyData) Q) = _
  refine congrArg (fs ρ) (funext fun ds => ?_)
  unfold trK
  split <;> rfl
def zpK (ds : List PyData) (Q : List PyData → Prop) : Prop := match ds with
  | [.list xs, .list ys] => xs.length = ys.length ∧ Q (zipD xs ys)
  | [.tuple xs, .tuple ys] => xs.length = ys.length ∧ Q (zipD xs ys)
  | _ => False
@[simp] theorem s_zpL {xs ys : List PyData} {Q : List PyData → Prop} : zpK [.list xs, .list ys] Q = (xs.length = ys.length ∧ Q (zipD xs ys)) := rfl
@[simp] theorem s_zpT {xs ys : List PyData} {Q : List PyData → Prop} : zpK [.tuple xs, .tuple ys] Q = (xs.length = ys.length ∧ Q (zipD xs ys)) := rfl
@[simp] theorem s_iZp {Q : List PyData → Prop} : iZp fs ρ Q = fs ρ fun ds => zpK ds Q := by
  show (fs ρ fun ds => (match ds with
  | [.list xs, .list ys] => fun Q => xs.length = ys.length ∧ Q (zipD xs ys)
  | [.tuple xs, .tuple ys] => fun Q => xs.length = ys.length ∧ Q (zipD xs ys)
  | _ => fail : Pp (List PyData)) Q) = _
  refine congrArg (fs ρ) (funext fun ds => ?_)
  unfold zpK
  split <;> rfl
def cntK (a : PyData) (k : List PyData → Prop) : Prop := match a with | .list xs => k xs | _ => False
@[simp] theorem s_cntK {xs : List PyData} {k : List PyData → Prop} : cntK (.list xs) k = k xs := rfl
@[simp] theorem s_count {Q : PyData → Prop} : eCount fa fb ρ Q = fa ρ fun a => cntK a fun xs => fb ρ fun b => (flatD b = true ∧ xs.all flatD = true) ∧ Q (.int ((xs.countP fun z => PyData.eqv z b : Nat) : Int)) := by
  show (fa ρ fun a => (match a with
  | .list xs => bnd (fb ρ) fun b => fun Q => (flatD b = true ∧ xs.all flatD = true) ∧ Q (.int ((xs.countP fun z => PyData.eqv z b : Nat) : Int))
  | _ => fail : Pp PyData) Q) = _
  exact congrArg (fa ρ) (funext fun a => by cases a <;> rfl)
@[simp] theorem s_fLc {it : Env → Pp (List PyData)} {g : PyData → Env → Pp Env} {vs : List Nat} {Q : List PyData → Prop} : fLc it g ft fe vs ρ Q = it ρ fun ds => lcGo g ft fe (wipeE ρ vs) ds Q := rfl
@[simp] theorem s_gN {i : Nat} {d : PyData} {Q : Env → Prop} : gN i d ρ Q = Q (ρ.set i (some (.dat d))) := rfl
@[simp] theorem s_gT {n : Nat} {fs' : List PyData → Env → Pp Env} {ds : List PyData} {Q : Env → Prop} : gT n fs' (.tuple ds) ρ Q = if ds.length = n then fs' ds ρ Q else False := by
  show (if ds.length = n then fs' ds ρ else fail) Q = _
  split <;> rfl
@[simp] theorem s_gsC {h : PyData → Env → Pp Env} {fs' : List PyData → Env → Pp Env} {d : PyData} {ds : List PyData} {Q : Env → Prop} : gsCons h fs' (d :: ds) ρ Q = h d ρ fun ρ' => fs' ds ρ' Q := rfl
@[simp] theorem s_gsN {Q : Env → Prop} : gsNil [] ρ Q = Q ρ := rfl
@[simp] theorem s_sNext : sNext E ρ = E.nx ρ := rfl
@[simp] theorem s_sBreak : sBreak E ρ = E.bk ρ := rfl
@[simp] theorem s_sCont : sCont E ρ = E.ct ρ := rfl
@[simp] theorem s_sNever : sNever E ρ = False := rfl
@[simp] theorem s_sSeq : sSeq f g E ρ = f ⟨g E, E.rt, E.bk, E.ct, E.ro⟩ ρ := rfl
@[simp] theorem s_sRet : sRet fa E ρ = fa (frzAll ρ) E.rt := rfl
@[simp] theorem s_sRetN : sRetN E ρ = E.rt .none := rfl
@[simp] theorem s_sRetF {ff : Env → Pp (List PyData)} : sRetF ff E ρ = ff (frzAll ρ) E.ro := rfl
@[simp] theorem s_sIf : sIf f1 f g E ρ = f1 (frzAll ρ) fun b => if b = true then f E ρ else g E ρ := rfl
@[simp] theorem s_sAsg {fg : PyData → Env → Pp Env} : sAsg fa fg E ρ = fa ρ fun d => fg d ρ E.nx := rfl
@[simp] theorem s_sAsgS {fg : PyData → Env → Pp Env} : sAsgS fa fg E ρ = fa (frzAll ρ) fun d => noList d = true ∧ fg d ρ E.nx := rfl
@[simp] theorem s_sDrop : sDrop fa E ρ = fa ρ fun _ => E.nx ρ := rfl
@[simp] theorem s_sOwn {ff : Env → Pp (List PyData)} {i : Nat} : sOwn ff i E ρ = ff ρ fun ds => E.nx (ρ.set i (some (.own ds))) := rfl
def ownK (o : Option (Option Cell)) (k : List PyData → Prop) : Prop := match o with | some (some (.own ds)) => k ds | _ => False
@[simp] theorem s_ownK {ds : List PyData} {k : List PyData → Prop} : ownK (some (some (.own ds))) k = k ds := rfl
theorem ownK_ex {o : Option (Option Cell)} {k : List PyData → Prop} : (∃ ds, o = some (some (.own ds)) ∧ k ds) = ownK o k := by
  unfold ownK
  split
  · exact propext ⟨fun ⟨_, e, h⟩ => by cases e; exact h, fun h => ⟨_, rfl, h⟩⟩
  · rename_i h
    exact propext ⟨fun ⟨ds, e, _⟩ => h ds e, fun h => h.elim⟩
@[simp] theorem s_sApp {i : Nat} : sApp i fe E ρ = ownK ρ[i]? fun ds => fe ρ fun d => (noPot d = true ∧ ds.length < sizeLine) ∧ E.nx (ρ.set i (some (.own (ds ++ [d])))) := ownK_ex
@[simp] theorem s_sAppS {i : Nat} : sAppS i fe E ρ = ownK ρ[i]? fun ds => fe (frzAll ρ) fun d => (noList d = true ∧ ds.length < sizeLine) ∧ E.nx (ρ.set i (some (.own (ds ++ [d])))) := ownK_ex
@[simp] theorem s_sClr {i : Nat} : sClr i E ρ = ownK ρ[i]? fun ds => E.nx (ρ.set i (some (.own []))) := ownK_ex
@[simp] theorem s_sRetO {i : Nat} : sRetO i E ρ = ownK ρ[i]? fun ds => E.ro ds := ownK_ex
@[simp] theorem s_sAsgSF {ff : Env → Pp (List PyData)} {i : Nat} : sAsgSF ff i E ρ = ff (frzAll ρ) fun ds => noListAll ds = true ∧ E.nx (ρ.set i (some (.dat (.list ds)))) := rfl
@[simp] theorem s_sRev {i : Nat} : sRev i E ρ = ownK ρ[i]? fun ds => E.nx (ρ.set i (some (.own ds.reverse))) := ownK_ex
theorem lstK_ex {d : PyData} {k : List PyData → Prop} : (∃ es, d = .list es ∧ k es) = cntK d k := by
  unfold cntK
  split
  · exact propext ⟨fun ⟨_, e, h⟩ => by cases e; exact h, fun h => ⟨_, rfl, h⟩⟩
  · rename_i h
    exact propext ⟨fun ⟨ds, e, _⟩ => h ds e, fun h => h.elim⟩
@[simp] theorem s_sExt {i : Nat} : sExt i fe E ρ = ownK ρ[i]? fun ds => fe ρ fun d => cntK d fun es => ds.length + es.length ≤ sizeLine ∧ E.nx (ρ.set i (some (.own (ds ++ es)))) := by
  rw [← ownK_ex]
  show (∃ ds, _ ∧ fe ρ fun d => ∃ es, d = .list es ∧ ds.length + es.length ≤ sizeLine ∧ E.nx (ρ.set i (some (.own (ds ++ es))))) = _
  refine congrArg Exists (funext fun ds => congrArg (And _) (congrArg (fe ρ) (funext fun d => ?_)))
  exact lstK_ex (k := fun es => ds.length + es.length ≤ sizeLine ∧ E.nx (ρ.set i (some (.own (ds ++ es)))))
@[simp] theorem s_fLc2 {it it1 : Env → Pp (List PyData)} {g g1 : PyData → Env → Pp Env} {vs vs1 : List Nat} {Q : List PyData → Prop} : fLc2 it g f1 it1 g1 f2 fe vs vs1 ρ Q = it ρ fun ds => lcGo2 g f1 it1 g1 f2 fe vs1 (wipeE ρ vs) [] ds Q := rfl
def lsK (ds : List PyData) (Q : List PyData → Prop) : Prop := match ds with | [a] => ofO (itemsD a) Q | _ => False
@[simp] theorem s_lsK {a : PyData} {Q : List PyData → Prop} : lsK [a] Q = ofO (itemsD a) Q := rfl
@[simp] theorem s_fLstOf {Q : List PyData → Prop} : fLstOf fs ρ Q = fs ρ fun ds => lsK ds Q := by
  show (fs ρ fun ds => (match ds with | [a] => ofO (itemsD a) | _ => fail : Pp (List PyData)) Q) = _
  refine congrArg (fs ρ) (funext fun ds => ?_)
  unfold lsK
  split <;> rfl
@[simp] theorem s_sFrz {i : Nat} : sFrz i f E ρ = f E (frz i ρ) := rfl
@[simp] theorem s_sFor {it : Env → Pp (List PyData)} {fg : PyData → Env → Pp Env} : sFor it fg f E ρ = it ρ fun ds => forGo fg f E ds ρ := rfl
@[simp] theorem s_env0c {n : Nat} {d : PyData} {ds : List PyData} : env0 n (d :: ds) = some (.dat d) :: env0 n ds := rfl
@[simp] theorem s_env00 : env0 0 [] = [] := rfl
@[simp] theorem s_env0s {n : Nat} : env0 (n + 1) [] = none :: env0 n [] := rfl
@[simp] theorem s_frzN : frzAll [] = [] := rfl
@[simp] theorem s_frzC {x : Option Cell} : frzAll (x :: ρ) = Option.map frzC x :: frzAll ρ := rfl
@[simp] theorem s_frzD {d : PyData} : frzC (.dat d) = .dat d := rfl
@[simp] theorem s_frzO {ds : List PyData} : frzC (.own ds) = .dat (.list ds) := rfl
@[simp] theorem s_dat0 {d : PyData} : datAt (some (.dat d) :: ρ) 0 = some d := rfl
@[simp] theorem s_datS {x : Option Cell} {i : Nat} : datAt (x :: ρ) (i + 1) = datAt ρ i := rfl
@[simp] theorem s_wN : wipeE ρ [] = ρ := rfl
@[simp] theorem s_wC {v : Nat} {vs : List Nat} : wipeE ρ (v :: vs) = (wipeE ρ vs).set v none := rfl
@[simp] theorem s_frz0 {ds : List PyData} : frz 0 (some (.own ds) :: ρ) = some (.dat (.list ds)) :: ρ := rfl
@[simp] theorem s_frz0d {d : PyData} : frz 0 (some (.dat d) :: ρ) = some (.dat d) :: ρ := rfl
@[simp] theorem s_frz0n : frz 0 (none :: ρ) = none :: ρ := rfl
@[simp] theorem s_frzS {x : Option Cell} {i : Nat} : frz (i + 1) (x :: ρ) = x :: frz i ρ := by
  unfold frz
  rw [List.getElem?_cons_succ]
  cases e : ρ[i]? with
  | none => rfl
  | some c =>
    cases c with
    | none => rfl
    | some c => cases c <;> rfl
@[simp] theorem s_fnP {n : Nat} {ds : List PyData} {Q : PyData → Prop} : fnP n f ds Q = f ⟨fun _ => noPot .none = true ∧ Q .none, fun d => noPot d = true ∧ Q d, fun _ => False, fun _ => False, fun _ => False⟩ (env0 n ds) := rfl
@[simp] theorem s_fnD {n : Nat} {ds : List PyData} {Q : PyData → Prop} : fnD n f ds Q = f ⟨fun _ => Q .none, Q, fun _ => False, fun _ => False, fun _ => False⟩ (env0 n ds) := rfl
@[simp] theorem s_fnPF {n : Nat} {ds : List PyData} {Q : List PyData → Prop} : fnPF n f ds Q = f ⟨fun _ => False, fun _ => False, fun _ => False, fun _ => False, Q⟩ (env0 n ds) := rfl
@[simp] theorem s_np1 {i : Int} : noPot (.int i) = true := rfl
@[simp] theorem s_np2 {b : Bool} : noPot (.bool b) = true := rfl
@[simp] theorem s_np3 {x : Str} : noPot (.str x) = true := rfl
@[simp] theorem s_np4 {x : List PyData} : noPot (.list x) = true := rfl
@[simp] theorem s_np5 {x : List PyData} : noPot (.tuple x) = true := rfl
@[simp] theorem s_np6 : noPot .none = true := rfl
@[simp] theorem s_nl1 {i : Int} : noList (.int i) = true := rfl
@[simp] theorem s_nl2 {b : Bool} : noList (.bool b) = true := rfl
@[simp] theorem s_nl3 {x : Str} : noList (.str x) = true := rfl
@[simp] theorem s_nl6 : noList .none = true := rfl
@[simp] theorem s_nl5 {x : List PyData} : noList (.tuple x) = noListAll x := rfl
@[simp] theorem s_nla0 : noListAll [] = true := rfl
@[simp] theorem s_nlac {x : PyData} {xs : List PyData} : noListAll (x :: xs) = (noList x && noListAll xs) := rfl
@[simp] theorem s_addI {i j : Int} : dAdd (.int i) (.int j) = some (.int (i + j)) := rfl
@[simp] theorem s_addT {xs ys : List PyData} : dAdd (.tuple xs) (.tuple ys) = if xs.length + ys.length ≤ sizeLine then some (.tuple (xs ++ ys)) else none := rfl
@[simp] theorem s_addL {xs ys : List PyData} : dAdd (.list xs) (.list ys) = if xs.length + ys.length ≤ sizeLine then some (.list (xs ++ ys)) else none := rfl
@[simp] theorem s_subI {i j : Int} : dSub (.int i) (.int j) = some (.int (i - j)) := rfl
@[simp] theorem s_lt {i j : Int} : dLt (.int i) (.int j) = some (.bool (decide (i < j))) := rfl
@[simp] theorem s_le {i j : Int} : dLe (.int i) (.int j) = some (.bool (decide (i ≤ j))) := rfl
@[simp] theorem s_gt {i j : Int} : dGt (.int i) (.int j) = some (.bool (decide (j < i))) := rfl
@[simp] theorem s_ge {i j : Int} : dGe (.int i) (.int j) = some (.bool (decide (j ≤ i))) := rfl
@[simp] theorem s_neg {i : Int} : dNeg (.int i) = some (.int (-i)) := rfl
@[simp] theorem s_mulT {d : PyData} {k : Int} : dMul (.tuple [d]) (.int k) = if 0 ≤ k ∧ k ≤ 1000 then some (.tuple (List.replicate k.toNat d)) else none := rfl
theorem mul_s {i j : Int} (h : (-(2 ^ 64) < i ∧ i < 2 ^ 64) ∨ (-(2 ^ 64) < j ∧ j < 2 ^ 64)) : dMul (.int i) (.int j) = some (.int (i * j)) := if_pos (.inl h)
@[simp] theorem s_ixT {ds : List PyData} {i : Int} : dIx (.tuple ds) (.int i) = atI ds i := rfl
@[simp] theorem s_ixL {ds : List PyData} {i : Int} : dIx (.list ds) (.int i) = atI ds i := rfl
@[simp] theorem s_isN {a : PyData} : dIsN a .none = some (.bool (isNoneD a)) := rfl
@[simp] theorem s_notN {a : PyData} : dNotN a .none = some (.bool (!isNoneD a)) := rfl
@[simp] theorem s_iN : isNoneD .none = true := rfl
@[simp] theorem s_iNi {i : Int} : isNoneD (.int i) = false := rfl
@[simp] theorem s_iNt {x : List PyData} : isNoneD (.tuple x) = false := rfl
@[simp] theorem s_iNl {x : List PyData} : isNoneD (.list x) = false := rfl
@[simp] theorem s_iNs {x : Str} : isNoneD (.str x) = false := rfl
@[simp] theorem s_d1 {o : PyData → Option PyData} {a : PyData} : d1 o [a] = o a := rfl
@[simp] theorem s_lenL {xs : List PyData} : dLen (.list xs) = some (.int xs.length) := rfl
@[simp] theorem s_lenT {xs : List PyData} : dLen (.tuple xs) = some (.int xs.length) := rfl
@[simp] theorem s_abs {i : Int} : dAbs (.int i) = some (.int (if i < 0 then -i else i)) := rfl
@[simp] theorem s_intI {i : Int} : dInt (.int i) = some (.int i) := rfl
@[simp] theorem s_intB {b : Bool} : dInt (.bool b) = some (.int (if b then 1 else 0)) := rfl
@[simp] theorem s_tupL {xs : List PyData} : dTupOf (.list xs) = some (.tuple xs) := rfl
@[simp] theorem s_tupT {xs : List PyData} : dTupOf (.tuple xs) = some (.tuple xs) := rfl
@[simp] theorem s_lstL {xs : List PyData} : dLstOf (.list xs) = some (.list xs) := rfl
@[simp] theorem s_lstT {xs : List PyData} : dLstOf (.tuple xs) = some (.list xs) := rfl
@[simp] theorem s_itL {xs : List PyData} : itemsD (.list xs) = some xs := rfl
@[simp] theorem s_itT {xs : List PyData} : itemsD (.tuple xs) = some xs := rfl
@[simp] theorem s_truB {b : Bool} : truD (.bool b) = some b := rfl
@[simp] theorem s_dTup {ds : List PyData} : dTup ds = if ds.all noPot = true ∧ ds.length ≤ sizeLine then some (.tuple ds) else none := rfl
@[simp] theorem s_slT {xs : List PyData} {lo hi : Option Int} : dSl (.tuple xs) lo hi = some (.tuple (cutD xs lo hi)) := rfl
@[simp] theorem s_slL {xs : List PyData} {lo hi : Option Int} : dSl (.list xs) lo hi = some (.list (cutD xs lo hi)) := rfl
@[simp] theorem s_all {bs : List Bool} : dAll (.list (bs.map PyData.bool)) = some (.bool (bs.all id)) := by unfold dAll; simp [asBools_map]
@[simp] theorem s_any {bs : List Bool} : dAny (.list (bs.map PyData.bool)) = some (.bool (bs.any id)) := by unfold dAny; simp [asBools_map]
@[simp] theorem s_neB {a b : Bool} : dNe (.bool a) (.bool b) = some (.bool (!(a == b))) := by
  unfold dNe
  rw [if_pos ⟨rfl, rfl⟩]
  simp [PyData.eqv]
@[simp] theorem s_eqB {a b : Bool} : dEq (.bool a) (.bool b) = some (.bool (a == b)) := by
  unfold dEq
  rw [if_pos ⟨rfl, rfl⟩]
  simp [PyData.eqv]
@[simp] theorem s_eqN : dEq .none .none = some (.bool true) := by
  unfold dEq
  rw [if_pos ⟨rfl, rfl⟩]
  simp [PyData.eqv]
@[simp] theorem s_allM {α : Type} {xs : List α} {p : α → Bool} : dAll (.list (xs.map (PyData.bool ∘ p))) = some (.bool (xs.all p)) := by rw [← List.map_map, s_all]; simp [List.all_map, Function.comp_def]
@[simp] theorem s_anyM {α : Type} {xs : List α} {p : α → Bool} : dAny (.list (xs.map (PyData.bool ∘ p))) = some (.bool (xs.any p)) := by rw [← List.map_map, s_any]; simp [List.any_map, Function.comp_def]
@[simp] theorem s_eqI {i j : Int} : dEq (.int i) (.int j) = some (.bool (decide (i = j))) := by
  have e : ∀ i : Int, SeqAt.shaped (.int i) = true := fun i => rfl
  unfold dEq
  rw [if_pos ⟨e i, e j⟩]
  simp only [PyData.eqv]
  by_cases h : i = j <;> simp [h]
@[simp] theorem s_neI {i j : Int} : dNe (.int i) (.int j) = some (.bool (!decide (i = j))) := by
  have e : ∀ i : Int, SeqAt.shaped (.int i) = true := fun i => rfl
  unfold dNe
  rw [if_pos ⟨e i, e j⟩]
  simp only [PyData.eqv]
  by_cases h : i = j <;> simp [h]
theorem shaped_str {x : Str} (h : PyData.strOk x = true) : SeqAt.shaped (.str x) = true := by
  show (PyData.canLay0 (.str x) && decide (PyData.depth (.str x) ≤ 64)) = true
  rw [show PyData.canLay0 (.str x) = PyData.strOk x by rw [PyData.canLay0], h]
  rfl
@[simp] theorem s_neS {x y : Str} (hx : PyData.strOk x = true) (hy : PyData.strOk y = true) : dNe (.str x) (.str y) = some (.bool (!decide (x = y))) := by
  unfold dNe
  rw [if_pos ⟨shaped_str hx, shaped_str hy⟩]
  simp [PyData.eqv]
  by_cases h : x = y <;> simp [h]
@[simp] theorem s_eqS {x y : Str} (hx : PyData.strOk x = true) (hy : PyData.strOk y = true) : dEq (.str x) (.str y) = some (.bool (decide (x = y))) := by
  unfold dEq
  rw [if_pos ⟨shaped_str hx, shaped_str hy⟩]
  simp [PyData.eqv]
  by_cases h : x = y <;> simp [h]
end
theorem forGo_map {α : Type} {fg : PyData → Env → Pp Env} {fb : Sm} {E : En} {enc : α → PyData} (Inv : List α → Env → Prop) {xs : List α} {ρ : Env} (h0 : Inv [] ρ)
    (hs : ∀ pre x post ρ, xs = pre ++ x :: post → Inv pre ρ → ∀ K : Env → Prop, (∀ ρ', Inv (pre ++ [x]) ρ' → K ρ') → fg (enc x) ρ fun ρ' => fb ⟨K, E.rt, E.nx, K, E.ro⟩ ρ') (he : ∀ ρ, Inv xs ρ → E.nx ρ) : forGo fg fb E (xs.map enc) ρ := by
  have : ∀ (post pre : List α) (ρ : Env), xs = pre ++ post → Inv pre ρ → forGo fg fb E (post.map enc) ρ := by
    intro post
    induction post with
    | nil => intro pre ρ e h; rw [List.append_nil] at e; subst e; exact he ρ h
    | cons d r ih =>
      intro pre ρ e h
      exact hs pre d r ρ e h _ fun ρ' h' => ih (pre ++ [d]) ρ' (by rw [e, List.append_assoc]; rfl) h'
  exact this xs [] ρ rfl h0
theorem forGo_range {fg : PyData → Env → Pp Env} {fb : Sm} {E : En} {lo : Int} {n : Nat} (Inv : Nat → Env → Prop) {ρ : Env} (h0 : Inv 0 ρ)
    (hs : ∀ i ρ, i < n → Inv i ρ → ∀ K : Env → Prop, (∀ ρ', Inv (i + 1) ρ' → K ρ') → fg (.int (lo + (i : Nat))) ρ fun ρ' => fb ⟨K, E.rt, E.nx, K, E.ro⟩ ρ') (he : ∀ ρ, Inv n ρ → E.nx ρ) : forGo fg fb E (rangeD lo n) ρ := by
  refine forGo_map (enc := fun k => PyData.int (lo + (k : Nat))) (xs := List.range n) (fun pre ρ => Inv pre.length ρ) h0 (fun pre x post ρ e h K hK => ?_) (fun ρ h => he ρ (by rw [List.length_range] at h; exact h))
  have hl := congrArg List.length e
  rw [List.length_range, List.length_append, List.length_cons] at hl
  have hx : x = pre.length := by
    have h1 := congrArg (fun l : List Nat => l[pre.length]?) e
    simp only [List.getElem?_append_right (Nat.le_refl _), Nat.sub_self, List.getElem?_cons_zero] at h1
    rw [List.getElem?_range (by omega)] at h1
    exact (Option.some.inj h1).symm
  subst hx
  exact hs _ ρ (by omega) h K fun ρ' h' => hK ρ' (by rw [List.length_append]; exact h')
theorem lcGo_map {α : Type} {g : PyData → Env → Pp Env} {fe : Env → Pp PyData} {ρ : Env} {enc f : α → PyData} {xs : List α} {Q : List PyData → Prop} (hs : ∀ x ∈ xs, noPot (f x) = true ∧ ∀ K : PyData → Prop, (g (enc x) ρ fun ρ2 => fe ρ2 K) = K (f x)) :
    lcGo g (fun _ => ret true) fe ρ (xs.map enc) Q = Q (xs.map f) := by
  induction xs generalizing Q with
  | nil => rfl
  | cons x r ih =>
    obtain ⟨h1, h2⟩ := hs x List.mem_cons_self
    show (g (enc x) ρ fun ρ2 => fe ρ2 fun y => noPot y = true ∧ lcGo g (fun _ => ret true) fe ρ (r.map enc) fun ys => Q (y :: ys)) = _
    rw [h2, ih fun y hy => hs y (List.mem_cons_of_mem _ hy)]
    exact propext ⟨fun q => q.2, fun q => ⟨h1, q⟩⟩
theorem lcGo_filter {α : Type} {g : PyData → Env → Pp Env} {ft : Env → Pp Bool} {fe : Env → Pp PyData} {ρ : Env} {enc f : α → PyData} {p : α → Bool} {xs : List α} {Q : List PyData → Prop}
    (hs : ∀ x ∈ xs, noPot (f x) = true ∧ ∀ K : Bool → PyData → Prop, (∀ K' : Prop, True) → (g (enc x) ρ fun ρ2 => ft ρ2 fun b => if b = true then fe ρ2 (K true) else K false .none) = if p x = true then K true (f x) else K false .none) :
    lcGo g ft fe ρ (xs.map enc) Q = Q ((xs.filter p).map f) := by
  induction xs generalizing Q with
  | nil => rfl
  | cons x r ih =>
    obtain ⟨h1, h2⟩ := hs x List.mem_cons_self
    have ih' := fun {Q} => ih (Q := Q) fun y hy => hs y (List.mem_cons_of_mem _ hy)
    have e : (lcGo g ft fe ρ ((x :: r).map enc) Q) = (g (enc x) ρ fun ρ2 => ft ρ2 fun b => if b = true then fe ρ2 (fun y => noPot y = true ∧ lcGo g ft fe ρ (r.map enc) fun ys => Q (y :: ys)) else lcGo g ft fe ρ (r.map enc) Q) := by
      show (g (enc x) ρ fun ρ2 => ft ρ2 fun b => (if b = true then bnd (fe ρ2) (fun y => fun Q => noPot y = true ∧ lcGo g ft fe ρ (r.map enc) (fun ys => Q (y :: ys))) else lcGo g ft fe ρ (r.map enc)) Q) = _
      refine congrArg (g (enc x) ρ) (funext fun ρ2 => congrArg (ft ρ2) (funext fun b => ?_))
      cases b <;> rfl
    rw [e]
    have := h2 (fun b y => if b = true then noPot y = true ∧ lcGo g ft fe ρ (r.map enc) (fun ys => Q (y :: ys)) else lcGo g ft fe ρ (r.map enc) Q) (fun _ => trivial)
    simp only [if_true, Bool.false_eq_true, if_false] at this
    rw [this, ih', ih', List.filter_cons]
    by_cases hp : p x = true
    · rw [if_pos hp, if_pos hp, List.map_cons]
      exact propext ⟨fun q => q.2, fun q => ⟨h1, q⟩⟩
    · rw [if_neg hp, if_neg hp]
@[simp] theorem s_take {m : Int} {Q : PyData → Prop} : takeP [pot, .int m] Q = (1 ≤ m ∧ m ≤ 1000000 ∧ ∀ r : Int, 0 ≤ r → r < m → Q (.int r)) := by
  unfold takeP
  exact propext ⟨fun ⟨m', e, h⟩ => by cases e; exact h, fun h => ⟨m, rfl, h⟩⟩
theorem lcGo_mapW {α : Type} {g : PyData → Env → Pp Env} {fe : Env → Pp PyData} {ρ : Env} {enc f : α → PyData} {xs : List α} {Q : List PyData → Prop} (hs : ∀ x ∈ xs, noPot (f x) = true ∧ ∀ K : PyData → Prop, K (f x) → g (enc x) ρ fun ρ2 => fe ρ2 K) (q : Q (xs.map f)) :
    lcGo g (fun _ => ret true) fe ρ (xs.map enc) Q := by
  induction xs generalizing Q with
  | nil => exact q
  | cons x r ih =>
    obtain ⟨h1, h2⟩ := hs x List.mem_cons_self
    show (g (enc x) ρ fun ρ2 => fe ρ2 fun y => noPot y = true ∧ lcGo g (fun _ => ret true) fe ρ (r.map enc) fun ys => Q (y :: ys))
    exact h2 _ ⟨h1, ih (fun y hy => hs y (List.mem_cons_of_mem _ hy)) q⟩
theorem lcGo_filterW {α : Type} {g : PyData → Env → Pp Env} {ft : Env → Pp Bool} {fe : Env → Pp PyData} {ρ : Env} {enc f : α → PyData} {p : α → Bool} {xs : List α} {Q : List PyData → Prop}
    (hs : ∀ x ∈ xs, noPot (f x) = true ∧ ∀ K : Bool → PyData → Prop, (if p x = true then K true (f x) else K false .none) → (g (enc x) ρ fun ρ2 => ft ρ2 fun b => if b = true then fe ρ2 (K true) else K false .none)) (q : Q ((xs.filter p).map f)) :
    lcGo g ft fe ρ (xs.map enc) Q := by
  induction xs generalizing Q with
  | nil => exact q
  | cons x r ih =>
    obtain ⟨h1, h2⟩ := hs x List.mem_cons_self
    have ih' := fun {Q} => ih (Q := Q) fun y hy => hs y (List.mem_cons_of_mem _ hy)
    have e : (lcGo g ft fe ρ ((x :: r).map enc) Q) = (g (enc x) ρ fun ρ2 => ft ρ2 fun b => if b = true then fe ρ2 (fun y => noPot y = true ∧ lcGo g ft fe ρ (r.map enc) fun ys => Q (y :: ys)) else lcGo g ft fe ρ (r.map enc) Q) := by
      show (g (enc x) ρ fun ρ2 => ft ρ2 fun b => (if b = true then bnd (fe ρ2) (fun y => fun Q => noPot y = true ∧ lcGo g ft fe ρ (r.map enc) (fun ys => Q (y :: ys))) else lcGo g ft fe ρ (r.map enc)) Q) = _
      refine congrArg (g (enc x) ρ) (funext fun ρ2 => congrArg (ft ρ2) (funext fun b => ?_))
      cases b <;> rfl
    rw [e]
    have := h2 (fun b y => if b = true then noPot y = true ∧ lcGo g ft fe ρ (r.map enc) (fun ys => Q (y :: ys)) else lcGo g ft fe ρ (r.map enc) Q)
    simp only [if_true, Bool.false_eq_true, if_false] at this
    refine this ?_
    rw [List.filter_cons] at q
    by_cases hp : p x = true
    · rw [if_pos hp] at q ⊢
      exact ⟨h1, ih' q⟩
    · rw [if_neg hp] at q ⊢
      exact ih' q
@[simp] theorem s_mod {i j : Int} (h : 0 < j) : dMod (.int i) (.int j) = some (.int (i % j)) := by
  show (if decide (0 < j) = true then some (PyData.int (i % j)) else none) = _
  rw [if_pos (by simpa using h)]
@[simp] theorem s_aStar {fa : Env → Pp PyData} {fs : Env → Pp (List PyData)} {ρ : Env} {Q : List PyData → Prop} : aStar fa fs ρ Q = fa ρ fun a => ofO (itemsD a) fun xs => fs ρ fun as => Q (xs ++ as) := rfl
@[simp] theorem s_sPar2 {i j : Nat} {fs : Env → Pp (List PyData)} {E : En} {ρ : Env} : sPar2 i j fs E ρ = fs ρ fun ds => ∃ a b, ds = [a, b] ∧ E.nx ((ρ.set i (some (.dat a))).set j (some (.dat b))) := rfl
@[simp] theorem s_sPar3 {i j k : Nat} {fs : Env → Pp (List PyData)} {E : En} {ρ : Env} : sPar3 i j k fs E ρ = fs ρ fun ds => ∃ a b c, ds = [a, b, c] ∧ E.nx (((ρ.set i (some (.dat a))).set j (some (.dat b))).set k (some (.dat c))) := rfl
@[simp] theorem s_sAug {i : Nat} {fe : Env → Pp PyData} {E : En} {ρ : Env} : sAug i fe E ρ = ∃ k, datAt ρ i = some (.int k) ∧ fe ρ fun d => ∃ j, d = .int j ∧ E.nx (ρ.set i (some (.dat (.int (k + j))))) := rfl
@[simp] theorem s_isB {a b : Bool} : dIsB (.bool a) (.bool b) = some (.bool (a == b)) := rfl
@[simp] theorem s_notB {a b : Bool} : dNotB (.bool a) (.bool b) = some (.bool (!(a == b))) := rfl
@[simp] theorem s_min2 {i j : Int} : dMin2 [.int i, .int j] = some (.int (if j < i then j else i)) := rfl
@[simp] theorem s_max2 {i j : Int} : dMax2 [.int i, .int j] = some (.int (if j > i then j else i)) := rfl
@[simp] theorem s_fSort {fs : Env → Pp (List PyData)} {ρ : Env} {Q : List PyData → Prop} : fSort fs ρ Q = fs ρ fun ds => ofO (sortIn ds) fun ns => Q ((isort ns).map PyData.int) := rfl
@[simp] theorem s_sortInL {ns : List Int} : sortIn [.list (ns.map PyData.int)] = some ns := by unfold sortIn; simp only [itemsD]; exact asInts_map ns
@[simp] theorem s_sortInT {ns : List Int} : sortIn [.tuple (ns.map PyData.int)] = some ns := by unfold sortIn; simp only [itemsD]; exact asInts_map ns
@[simp] theorem s_fSS {fs : Env → Pp (List PyData)} {ρ : Env} {Q : List PyData → Prop} : fSS fs ρ Q = fs ρ fun ds => ofO (setInts ds) fun ns => Q ((sset ns).map PyData.int) := rfl
def lnK (ds : List PyData) : Option Nat := match setInts ds with | some ns => some (DS.dedup ns).length | none => (setStrs ds).map fun ns => (DS.dedup ns).length
@[simp] theorem s_eLS {fs : Env → Pp (List PyData)} {ρ : Env} {Q : PyData → Prop} : eLS fs ρ Q = fs ρ fun ds => ofO (lnK ds) fun k => Q (.int (k : Int)) := rfl
theorem rise_eq {xs ys : List Int} (hx : xs.Pairwise (· < ·)) (hy : ys.Pairwise (· < ·)) (h : ∀ x, x ∈ xs ↔ x ∈ ys) : xs = ys := by
  have nx : xs.Nodup := hx.imp fun h => Int.ne_of_lt h
  have ny : ys.Nodup := hy.imp fun h => Int.ne_of_lt h
  have hp : xs.Perm ys := (List.perm_ext_iff_of_nodup nx ny).mpr h
  exact hp.eq_of_pairwise (fun a b _ _ h1 h2 => absurd h1 (Int.lt_asymm h2)) hx hy
@[simp] theorem s_eDf {op : CmpOp} {fs : Env → Pp (List PyData)} {fd : Env → Pp PyData} {ρ : Env} {Q : PyData → Prop} : eDf op fs fd ρ Q = fs ρ fun ds => fd ρ fun x => (match ds with | [.list []] => ret x | ds => ofO (d1 (dBest op) ds)) Q := rfl
@[simp] theorem s_optS {α : Type} {x : α} {k : α → Prop} : optK (some x) k = k x := rfl
@[simp] theorem s_optN {α : Type} {k : α → Prop} : optK (none : Option α) k = False := rfl
@[simp] theorem s_asI {k : Int} : asI (.int k) = some k := rfl
@[simp] theorem s_sAugI {f : Int → Int → Int} {i : Nat} {fi fe : Env → Pp PyData} {E : En} {ρ : Env} : sAugI f i fi fe E ρ = ownK ρ[i]? fun ds => fi (frzAll ρ) fun z => optK (plc ds z) fun j => optK (ds[j]?.bind asI) fun a => fe (frzAll ρ) fun d => optK (asI d) fun b => E.nx (ρ.set i (some (.own (ds.set j (.int (f a b)))))) := ownK_ex
@[simp] theorem s_sPutS {i : Nat} {fi fe : Env → Pp PyData} {E : En} {ρ : Env} : sPutS i fi fe E ρ = ownK ρ[i]? fun ds => fe (frzAll ρ) fun d => fi (frzAll ρ) fun z => noList d = true ∧ optK (plc ds z) fun j => E.nx (ρ.set i (some (.own (ds.set j d)))) := ownK_ex
def enK (ds : List PyData) (Q : List PyData → Prop) : Prop := match ds with
  | [.list xs] => Q (enumD xs)
  | _ => False
@[simp] theorem s_enK {xs : List PyData} {Q : List PyData → Prop} : enK [.list xs] Q = Q (enumD xs) := rfl
@[simp] theorem s_iEn {fs : Env → Pp (List PyData)} {ρ : Env} {Q : List PyData → Prop} : iEn fs ρ Q = fs ρ fun ds => enK ds Q := by
  show (fs ρ fun ds => (match ds with
  | [.list xs] => ret (enumD xs)
  | _ => fail : Pp (List PyData)) Q) = _
  refine congrArg (fs ρ) (funext fun ds => ?_)
  unfold enK
  split <;> rfl
@[simp] theorem s_sPop {i : Nat} {fi : Env → Pp PyData} {fg : PyData → Env → Pp Env} {E : En} {ρ : Env} : sPop i fi fg E ρ = ownK ρ[i]? fun ds => fi (frzAll ρ) fun z => optK (plc ds z) fun j => optK ds[j]? fun d => fg d (ρ.set i (some (.own (ds.eraseIdx j)))) E.nx := ownK_ex
@[simp] theorem s_sPopD {i : Nat} {fi : Env → Pp PyData} {E : En} {ρ : Env} : sPopD i fi E ρ = ownK ρ[i]? fun ds => fi (frzAll ρ) fun z => optK (plc ds z) fun j => E.nx (ρ.set i (some (.own (ds.eraseIdx j)))) := ownK_ex
@[simp] theorem s_sIns {i : Nat} {fi fe : Env → Pp PyData} {E : En} {ρ : Env} : sIns i fi fe E ρ = ownK ρ[i]? fun ds => fi (frzAll ρ) fun z => fe (frzAll ρ) fun d => (noList d = true ∧ ds.length < sizeLine) ∧ optK (asI z) fun k => (-1000000 ≤ k ∧ k ≤ 1000000) ∧ E.nx (ρ.set i (some (.own (L2.insAt ds k d)))) := ownK_ex
@[simp] theorem s_sForS {it : Env → Pp (List PyData)} {fg : PyData → Env → Pp Env} {fb : Sm} {E : En} {ρ : Env} : sForS it fg fb E ρ = it (frzAll ρ) fun ds => forGo fg fb E ds ρ := rfl
@[simp] theorem s_revL {xs : List PyData} : dRev (.list xs) (.int (-1)) = some (.list xs.reverse) := rfl
@[simp] theorem s_revT {xs : List PyData} : dRev (.tuple xs) (.int (-1)) = some (.tuple xs.reverse) := rfl
def ixK (a : PyData) (k : List PyData → Prop) : Prop := match a with | .list xs => k xs | _ => False
@[simp] theorem s_ixK {xs : List PyData} {k : List PyData → Prop} : ixK (.list xs) k = k xs := rfl
@[simp] theorem s_eIndex {fa fb : Env → Pp PyData} {ρ : Env} {Q : PyData → Prop} : eIndex fa fb ρ Q = fa ρ fun a => ixK a fun xs => fb ρ fun b => (flatD b = true ∧ xs.all flatD = true) ∧ optK (xs.findIdx? fun z => PyData.eqv z b) fun j => Q (.int (j : Int)) := by
  show (fa ρ fun a => (match a with
  | .list xs => bnd (fb ρ) fun b => fun Q => (flatD b = true ∧ xs.all flatD = true) ∧ optK (xs.findIdx? fun z => PyData.eqv z b) fun j => Q (.int (j : Int))
  | _ => fail : Pp PyData) Q) = _
  exact congrArg (fa ρ) (funext fun a => by cases a <;> rfl)
def zmK (ds : List PyData) (Q : List PyData → Prop) : Prop := match ds with
  | [.tuple xs, .list ys] => xs.length = ys.length ∧ Q (zipD xs ys)
  | _ => False
@[simp] theorem s_zmK {xs ys : List PyData} {Q : List PyData → Prop} : zmK [.tuple xs, .list ys] Q = (xs.length = ys.length ∧ Q (zipD xs ys)) := rfl
@[simp] theorem s_iZm {fs : Env → Pp (List PyData)} {ρ : Env} {Q : List PyData → Prop} : iZm fs ρ Q = fs ρ fun ds => zmK ds Q := by
  show (fs ρ fun ds => (match ds with
  | [.tuple xs, .list ys] => fun Q => xs.length = ys.length ∧ Q (zipD xs ys)
  | _ => fail : Pp (List PyData)) Q) = _
  refine congrArg (fs ρ) (funext fun ds => ?_)
  unfold zmK
  split <;> rfl
section
variable {fa fi : Env → Pp PyData} {ρ : Env} {E : En}
@[simp] theorem s_sAppPop {k i : Nat} : sAppPop k i fi E ρ = ownK ρ[k]? fun ys => ownK ρ[i]? fun ds => (i ≠ k ∧ ys.length < sizeLine) ∧ fi (frzAll ρ) fun z => optK (plc ds z) fun j => optK ds[j]? fun d => E.nx ((ρ.set i (some (.own (ds.eraseIdx j)))).set k (some (.own (ys ++ [d])))) := by
  unfold sAppPop
  rw [← ownK_ex]
  simp only [← ownK_ex]
@[simp] theorem s_sCallPop {g : List PyData → Pp PyData} {i jy : Nat} : sCallPop g fa i fi jy E ρ = ownK ρ[i]? fun ds => fa ρ fun a => noPot a = true ∧ fi (frzAll ρ) fun z => optK (plc ds z) fun j => optK ds[j]? fun d => g [a, d] fun r => E.nx ((ρ.set i (some (.own (ds.eraseIdx j)))).set jy (some (.dat r))) := ownK_ex
@[simp] theorem s_sCallPopT {g : List PyData → Pp PyData} {i jy : Nat} : sCallPopT g fa i fi jy E ρ = ownK ρ[i]? fun ds => fa ρ fun a => noPot a = true ∧ fi (frzAll ρ) fun z => optK (plc ds z) fun j => optK ds[j]? fun d => g [a, .tuple [d]] fun r => E.nx ((ρ.set i (some (.own (ds.eraseIdx j)))).set jy (some (.dat r))) := ownK_ex
end
end DL
set_option Elab.async false
set_option linter.all false
set_option maxRecDepth 100000
set_option maxHeartbeats 400000
namespace WD
open PySem L2 DL
def top (i : Nat) : Stmt := PySem.Challenge.pw_wishdues_k53_all_two_told.main.body.getD i (.Pass ⟨0, 0, 0, 0⟩)
abbrev sTake : Stmt := top 7
abbrev Dr (K : PySem.W.Frag) := DrJ K
section
variable {P : Program} {w : World} {K : PySem.W.Frag} {mg : Str → Option Value} {base : Heap}
theorem scTake : FnScope ["jar", "many"] ["jar", "many"] (defScope sTake) := ⟨rfl, rfl, rfl, by decide +kernel, rfl, by decide +kernel, by decide +kernel⟩
theorem jpA {H : Hp} {d q : Addr} {t m : Int} (h : H d = some (.dK (kv3 q t m))) (x : Int) : DPut H d (.str "at") (.int x) (upd H d (.dK (kv3 q x m))) := by
  have := DPut.k (k := Sum.inr "at") (v := .int x) h (small1000 (by unfold kv3; simp))
  rwa [pj_at] at this
theorem jpM {H : Hp} {d q : Addr} {t m : Int} (h : H d = some (.dK (kv3 q t m))) (x : Int) : DPut H d (.str "more") (.int x) (upd H d (.dK (kv3 q t x))) := by
  have := DPut.k (k := Sum.inr "more") (v := .int x) h (small1000 (by unfold kv3; simp))
  rwa [pj_more] at this
theorem ok_take {f : Addr} {fd : FuncData} (F : Fun K "_law_take" "_law_take" sTake f fd) (T : Tx mg) : FnOk P w K mg base CX0 1 f fd ["jar", "many"] (spTk (Dr K)) := by
  refine F.ok scTake (fun vs H Q E h => ?_) (fun cdv A outer s H vs Q E hr h => ?_)
  · obtain ⟨d, g, m, rfl, _⟩ := h
    rfl
  obtain ⟨d, g, m, rfl, D, m1, m2, k⟩ := h
  have hu := hu_of hr
  obtain ⟨t, mo, q, fs, h1, a, b, c, e, h3, h4⟩ := D.sq
  refine ⟨_, pss_cons (ps_if (pt_cmpR op_lt (pe_dget hu (pv 0) pe_str (fun _ _ => rfl)) (pe_callB call_len_seq rfl T.len PySem.boot_len (pa_cons (pe_dget hu (pv 0) pe_str (fun _ _ => rfl)) pa_nil)) (nomark _))
      (pss_cons (ps_dput hu (pv 0) pe_str (pe_op op_add (pe_dget hu (pv 0) pe_str (fun _ _ => rfl)) pe_int) rfl)
      (pss_one (ps_ret (pe_op op_mod (pe_op op_fdiv (pe_ix ix_list (pe_dget hu (pv 0) pe_str (fun _ _ => rfl)) (pe_op op_sub (pe_dget hu (pv 0) pe_str (fun _ _ => rfl)) pe_int) (fun _ _ => rfl)) pe_int) (pv 1))))) pss_nil)
    (pss_cons (ps_dput hu (pv 0) pe_str (pe_op op_mod (pe_op op_add (pe_op op_pow (pe_dget hu (pv 0) pe_str (fun _ _ => rfl)) pe_int) pe_int) pe_int) rfl)
    (pss_one (ps_ret (pe_op op_mod (pe_op op_fdiv (pe_dget hu (pv 0) pe_str (fun _ _ => rfl)) pe_int) (pv 1))))), ?_⟩
  have hlen : (fs.map V.int).length = fs.length := List.length_map ..
  refine ⟨_, rfl, d, _, rfl, jgA h1, _, rfl, d, _, rfl, jgD h1, q, _, rfl, .inl h3, _, _, rfl, rfl, _, rfl, ?_⟩
  dsimp only
  rw [hlen]
  by_cases hlt : t < (fs.length : Int)
  · rw [decide_eq_true hlt, if_pos rfl]
    obtain ⟨D', S'⟩ := h4 (t + 1) mo (by omega) (by omega) c e
    have h1' : upd H d (.dK (kv3 q (t + 1) mo)) d = some (.dK (kv3 q (t + 1) mo)) := upd_same
    obtain ⟨z, hz⟩ : ∃ z, fs[t.toNat]? = some z := ⟨_, List.getElem?_eq_getElem (by omega)⟩
    have hat : atI (fs.map V.int) (t + 1 - 1) = some (.int z) := by
      have := atI_nat (xs := fs.map V.int) (j := t.toNat) (v := V.int z) (by rw [List.getElem?_map, hz]; rfl)
      rw [Int.toNat_of_nonneg a] at this
      rw [show t + 1 - 1 = t by omega]; exact this
    refine ⟨_, rfl, d, _, rfl, jgA h1, _, _, rfl, rfl, _, rfl, d, _, rfl, jpA h1 _, ?_⟩
    refine ⟨_, rfl, d, _, rfl, jgD h1', _, rfl, d, _, rfl, jgA h1', _, _, rfl, rfl, q, _, _, .int z, rfl, rfl, S', hat, _, _, rfl, rfl, ⟨by decide, by decide⟩, _, rfl, _, _, rfl, rfl, (by show (0 : Int) < m; omega), ?_⟩
    exact k _ _ (Int.emod_nonneg _ (by omega)) (Int.emod_lt_of_pos _ (by omega)) D' (fun b o e n1 n2 => by rw [upd_ne n1]; exact e)
  · rw [decide_eq_false hlt, if_neg (by decide)]
    have n0 : 0 ≤ (mo ^ (2 : Int).toNat + 40692) % 2147483629 := Int.emod_nonneg _ (by decide)
    have n1 : (mo ^ (2 : Int).toNat + 40692) % 2147483629 < 2147483629 := Int.emod_lt_of_pos _ (by decide)
    obtain ⟨D', S'⟩ := h4 t ((mo ^ (2 : Int).toNat + 40692) % 2147483629) a b n0 n1
    have h1' : upd H d (.dK (kv3 q t ((mo ^ (2 : Int).toNat + 40692) % 2147483629))) d = some (.dK (kv3 q t ((mo ^ (2 : Int).toNat + 40692) % 2147483629))) := upd_same
    refine ⟨_, rfl, d, _, rfl, jgM h1, _, _, rfl, rfl, ⟨by decide, by decide, by omega⟩, _, _, rfl, rfl, _, _, rfl, rfl, (by show (0 : Int) < 2147483629; decide), _, rfl, d, _, rfl, jpM h1 _, ?_⟩
    refine ⟨_, rfl, d, _, rfl, jgM h1', _, _, rfl, rfl, ⟨by decide, by decide⟩, _, rfl, _, _, rfl, rfl, (by show (0 : Int) < m; omega), ?_⟩
    exact k _ _ (Int.emod_nonneg _ (by omega)) (Int.emod_lt_of_pos _ (by omega)) D' (fun b o e n1 n2 => by rw [upd_ne n1]; exact e)
abbrev drLoc := drJ_loc
theorem ok_takeX {f : Addr} {fd : FuncData} (F : Fun K "_law_take" "_law_take" sTake f fd) (T : Tx mg) : FnOk P w K mg base CX0 1 f fd ["jar", "many"] (spX K (famD (Dr K)) takeP) := take_x (drJ_loc K) (drJ_there K) (ok_take F T)
end
end WD
set_option Elab.async false
set_option linter.all false
set_option maxRecDepth 100000
set_option maxHeartbeats 400000
namespace WD
open PySem L2 DL
section
variable {P : Program} {w : World} {K : PySem.W.Frag} {mg : Str → Option Value} {base : Heap}
abbrev s_made_pot : Stmt := top 1
abbrev N_made_pot : List Str := ["pairs", "weights", "row", "weight", "words"]
abbrev nm_made_pot : List (Str × NameKind) := [("pairs", .local), ("weights", .local), ("row", .local), ("weight", .local), ("words", .local), ("tuple", .globalImplicit), ("sorted", .globalImplicit)]
theorem sc_made_pot : FnScope N_made_pot ["pairs"] (defScope s_made_pot) := ⟨rfl, rfl, rfl, by decide +kernel, rfl, by decide +kernel, by decide +kernel⟩
theorem nmq_made_pot : (defScope s_made_pot).names = nm_made_pot := rfl
def b_made_potF : Sm :=
  (sMadeP 1 (madeF (iSeq (eVar 0)) (gT 2 (gsCons (gN 2) (gsCons (gN 3) gsNil))) 4 (fSort (aCons (eVar 2) aNil)) (eVar 3)))
def g_made_potF : List PyData → Pp (List PyData) := fun ds Q => ds.length = 1 ∧ fnPF 4 b_made_potF ds Q
theorem ok_made_potF {f : Addr} {fd : FuncData} (F : Fun K "made_pot" "made_pot" s_made_pot f fd) (T : Tx mg)  : FnOk P w K mg base CX0 1 f fd ["pairs"] (spPF K g_made_potF) :=
  fn_okPF (k := 0) (fb := b_made_potF) F sc_made_pot nmq_made_pot (fun _ _ h => h)
  (xss_madeP 1 4 T.tuple T.sorted (xi_seq (x_var 0)) (xg_tup (xgs_cons (xg_name 2) (xgs_cons (xg_name 3) xgs_nil))) (xf_sort T.sorted (xa_cons (x_var 2) xa_nil)) (x_var 3))
abbrev s_opposite_words : Stmt := top 2
abbrev N_opposite_words : List Str := ["one", "other", "word"]
abbrev nm_opposite_words : List (Str × NameKind) := [("one", .local), ("other", .cell)]
theorem sc_opposite_words : FnScope N_opposite_words ["one", "other"] (defScope s_opposite_words) := ⟨rfl, rfl, rfl, by decide +kernel, rfl, by decide +kernel, by decide +kernel⟩
theorem nmq_opposite_words : (defScope s_opposite_words).names = nm_opposite_words := rfl
def b_opposite_wordsF : Sm :=
  (sRetF (fLc (iSeq (eVar 0)) (gN 2) (tBool (eOp (dIn false) (eUn dNeg (eVar 2)) (eVar 1))) (eVar 2) [2]))
def g_opposite_wordsF : List PyData → Pp (List PyData) := fun ds Q => ds.length = 2 ∧ fnPF 1 b_opposite_wordsF ds Q
theorem ok_opposite_wordsF {f : Addr} {fd : FuncData} (F : Fun K "opposite_words" "opposite_words" s_opposite_words f fd) (T : Tx mg)  : FnOk P w K mg base CX0 1 f fd ["one", "other"] (spPF K g_opposite_wordsF) :=
  fn_okPF (k := 0) (fb := b_opposite_wordsF) F sc_opposite_words nmq_opposite_words (fun _ _ h => h)
  (xs_one (xs_retF (xf_lc [("word", 2)] [2] (xi_seq (x_var 0)) (by first | decide +kernel | (dsimp only; decide +kernel)) rfl (xg_name 2) (by decide) (xts_one (xt_in (x_neg (x_var 2)) (x_var 1))) (x_var 2))))
abbrev s_pours_now : Stmt := top 3
abbrev N_pours_now : List Str := ["pot", "name", "words", "own", "weight", "one", "other"]
abbrev nm_pours_now : List (Str × NameKind) := [("pot", .local), ("name", .cell), ("words", .cell)]
theorem sc_pours_now : FnScope N_pours_now ["pot", "name"] (defScope s_pours_now) := ⟨rfl, rfl, rfl, by decide +kernel, rfl, by decide +kernel, by decide +kernel⟩
theorem nmq_pours_now : (defScope s_pours_now).names = nm_pours_now := rfl
def b_pours_nowF : Sm :=
  (sSeq (sAsg (eL (fLc (iSeq (eVar 0)) (gT 2 (gsCons (gN 3) (gsCons (gN 4) gsNil))) (fun _ => ret true) (eVar 3) [3, 4])) (gN 2))
  (sRetF (fLc2 (iSeq (eVar 2)) (gN 5) (fun _ => ret true) (iSeq (eVar 2)) (gN 6) (tBool (eOp dEq (eL (eCallF (gPF g_opposite_wordsF) (aCons (eVar 5) (aCons (eVar 6) aNil)))) (eL (fLst (aCons (eVar 1) aNil))))) (eTup (aCons (eVar 5) (aCons (eVar 6) aNil))) [5, 6] [6])))
def g_pours_nowF : List PyData → Pp (List PyData) := fun ds Q => ds.length = 2 ∧ fnPF 5 b_pours_nowF ds Q
theorem ok_pours_nowF {f : Addr} {fd : FuncData} (F : Fun K "pours_now" "pours_now" s_pours_now f fd) (T : Tx mg) (c_opposite_wordsF : DL.Callee P w K mg base 1 "opposite_words" ["one", "other"] (spPF K g_opposite_wordsF)) : FnOk P w K mg base CX0 2 f fd ["pot", "name"] (spPF K g_pours_nowF) :=
  fn_okPF (k := 1) (fb := b_pours_nowF) F sc_pours_now nmq_pours_now (fun _ _ h => h)
  (xs_cons (xs_lcC 2 [("own", 3), ("weight", 4)] [3, 4] (xi_seq (x_var 0)) (by first | decide +kernel | (dsimp only; decide +kernel)) rfl (xg_tup (xgs_cons (xg_name 3) (xgs_cons (xg_name 4) xgs_nil))) (by decide) xts_nil (x_var 3))
  (xs_one (xs_retF (xf_lc2 [("one", 5), ("other", 6)] [5, 6] [6] (xi_seq (x_var 2)) (by first | decide +kernel | (dsimp only; decide +kernel)) rfl (by decide) (xg_name 5) (by decide) xts_nil (xi_seq (x_var 2)) (xg_name 6) (by decide) (xts_one (xt_eq (xf_callP c_opposite_wordsF (xa_cons (x_var 5) (xa_cons (x_var 6) xa_nil))).x (xf_lst (xa_cons (x_var 1) xa_nil)).x)) (x_tup (xa_cons (x_var 5) (xa_cons (x_var 6) xa_nil)))))))
abbrev s__law_row_of : Stmt := top 5
abbrev N__law_row_of : List Str := ["cell", "found", "left", "k", "one"]
abbrev nm__law_row_of : List (Str × NameKind) := [("cell", .local), ("found", .local), ("left", .local), ("k", .local), ("one", .local), ("abs", .globalImplicit), ("range", .globalImplicit)]
theorem sc__law_row_of : FnScope N__law_row_of ["cell"] (defScope s__law_row_of) := ⟨rfl, rfl, rfl, by decide +kernel, rfl, by decide +kernel, by decide +kernel⟩
theorem nmq__law_row_of : (defScope s__law_row_of).names = nm__law_row_of := rfl
def b__law_row_ofF : Sm :=
  (sSeq (sOwn (fLst aNil) 1)
  (sSeq (sAsg (eCB (d1 dAbs) (aCons (eVar 0) aNil)) (gN 2))
  (sSeq (sIf (tBool (eOp dGe (eVar 2) (eOp dPow (eC (.int 10)) (eC (.int 18))))) (sSeq (sFor (iR1 (aCons (eC (.int 60)) aNil)) (gN 3) (sIf (tBool (eOp dGt (eVar 2) (eC (.int 0)))) (sSeq (sApp 1 (eOp dMod (eVar 2) (eOp dPow (eC (.int 10)) (eC (.int 6)))))
  (sAsg (eOp dDiv (eVar 2) (eOp dPow (eC (.int 10)) (eC (.int 6)))) (gN 2))) sNext))
  (sRetO 1)) sNext)
  (sSeq (sFor (iR1 (aCons (eC (.int 9)) aNil)) (gN 3) (sSeq (sAsg (eOp dMod (eOp dAdd (eOp dAdd (eOp dMul (eVar 0) (eC (.int 48271))) (eOp dMul (eC (.int 977)) (eVar 3))) (eC (.int 1))) (eC (.int 2147483647))) (gN 4))
  (sSeq (sAsg (eOp dMod (eOp dMul (eVar 4) (eVar 4)) (eC (.int 2147483647))) (gN 4))
  (sApp 1 (eOp dMod (eOp dDiv (eOp dMod (eOp dMul (eOp dAdd (eVar 4) (eOp dMul (eC (.int 40692)) (eOp dAdd (eVar 3) (eC (.int 3))))) (eC (.int 69621))) (eC (.int 2147483629))) (eC (.int 8))) (eOp dPow (eC (.int 10)) (eC (.int 6))))))))
  (sRetO 1)))))
def g__law_row_ofF : List PyData → Pp (List PyData) := fun ds Q => ds.length = 1 ∧ fnPF 4 b__law_row_ofF ds Q
theorem ok__law_row_ofF {f : Addr} {fd : FuncData} (F : Fun K "_law_row_of" "_law_row_of" s__law_row_of f fd) (T : Tx mg)  : FnOk P w K mg base CX0 1 f fd ["cell"] (spPF K g__law_row_ofF) :=
  fn_okPF (k := 0) (fb := b__law_row_ofF) F sc__law_row_of nmq__law_row_of (fun _ _ h => h)
  (xs_cons (xs_own 1 (xf_lst xa_nil))
  (xs_cons (xs_set 2 (x_abs T.abs (xa_cons (x_var 0) xa_nil)))
  (xs_cons (xs_if (xt_ge (x_var 2) (x_pow x_int x_int)) (xs_cons (xs_for (xi_r1 T.range (xa_cons x_int xa_nil)) (xg_name 3) (xs_one (xs_if (xt_gt (x_var 2) x_int) (xs_cons (xs_app 1 (x_mod (x_var 2) (x_pow x_int x_int)))
  (xs_one (xs_set 2 (x_div (x_var 2) (x_pow x_int x_int))))) xs_nil)))
  (xs_one (xs_retO 1))) xs_nil)
  (xs_cons (xs_for (xi_r1 T.range (xa_cons x_int xa_nil)) (xg_name 3) (xs_cons (xs_set 4 (x_mod (x_add (x_add (x_mul (x_var 0) x_int) (x_mul x_int (x_var 3))) x_int) x_int))
  (xs_cons (xs_set 4 (x_mod (x_mul (x_var 4) (x_var 4)) x_int))
  (xs_one (xs_app 1 (x_mod (x_div (x_mod (x_mul (x_add (x_var 4) (x_mul x_int (x_add (x_var 3) x_int))) x_int) x_int) x_int) (x_pow x_int x_int)))))))
  (xs_one (xs_retO 1))))))
abbrev s__law_jar : Stmt := top 6
abbrev N__law_jar : List Str := ["script", "draws", "cell"]
abbrev nm__law_jar : List (Str × NameKind) := [("script", .local), ("draws", .local), ("cell", .local), ("_law_row_of", .globalImplicit), ("sum", .globalImplicit)]
theorem sc__law_jar : FnScope N__law_jar ["script"] (defScope s__law_jar) := ⟨rfl, rfl, rfl, by decide +kernel, rfl, by decide +kernel, by decide +kernel⟩
theorem nmq__law_jar : (defScope s__law_jar).names = nm__law_jar := rfl
def b__law_jar_1 : Sm :=
  (sOwn (fLst aNil) 1)
def b__law_jar_2 : Sm :=
  (sFor (iSeq (eSl (eVar 0) oNo (oSo (eC (.int 63))))) (gN 2) (sExt 1 (eL (eCallF (gPF g__law_row_ofF) (aCons (eVar 2) aNil)))))
theorem ok__law_jar {f : Addr} {fd : FuncData} (F : Fun K "_law_jar" "_law_jar" s__law_jar f fd) (T : Tx mg) (c__law_row_ofF : DL.Callee P w K mg base 1 "_law_row_of" ["cell"] (spPF K g__law_row_ofF)) (hdata : ∀ ns : List Int, ns.length ≤ 63 → b__law_jar_1 ⟨b__law_jar_2 jarE, fun _ => False, fun _ => False, fun _ => False, fun _ => False⟩ (some (.dat (.list (ns.map PyData.int))) :: List.replicate 2 none)) : FnOk P w K mg base CX0 2 f fd ["script"] (spPo K (Dr K) []) :=
  jar_ok (k := 1) F sc__law_jar nmq__law_jar rfl (xs_own 1 (xf_lst xa_nil)) (xs_for (xi_seq (x_sl (x_var 0) xo_no (xo_so x_int))) (xg_name 2) (xs_one (xs_ext 1 (xf_callP c__law_row_ofF (xa_cons (x_var 2) xa_nil)).x))) (fun X h => ps_ret (by
    have hK : X.K = K := h.kk
    rw [← hK]
    exact pe_disp (pps_cons pe_str (pe_var (i := 1) (x := "draws") (by rw [h.nn]; rfl) (vis_of h (.inl rfl))) (pps_cons pe_str pe_int (pps_cons pe_str (pe_op op_mod (pe_op op_add pe_int (pe_op op_mul pe_int (pe_callB (cr_sum (X := X) h.calm) (gl_of h rfl) (by rw [h.mg]; exact T.sum) (by decide +kernel) (pa_cons (pe_var (i := 1) (x := "draws") (by rw [h.nn]; rfl) (vis_of h (.inl rfl))) pa_nil)))) pe_int) pps_nil))) (by rfl) (by rfl) (fun z => by cases z) (by decide)
    )) hdata
abbrev s__law_tuple : Stmt := top 8
abbrev N__law_tuple : List Str := ["jar", "size", "found", "k", "one"]
abbrev nm__law_tuple : List (Str × NameKind) := [("jar", .local), ("size", .local), ("found", .local), ("k", .local), ("one", .local), ("range", .globalImplicit), ("_law_take", .globalImplicit), ("tuple", .globalImplicit), ("sorted", .globalImplicit)]
theorem sc__law_tuple : FnScope N__law_tuple ["jar", "size"] (defScope s__law_tuple) := ⟨rfl, rfl, rfl, by decide +kernel, rfl, by decide +kernel, by decide +kernel⟩
theorem nmq__law_tuple : (defScope s__law_tuple).names = nm__law_tuple := rfl
def b__law_tuple : Sm :=
  (sSeq (sOwn (fLst aNil) 2)
  (sSeq (sFor (iR1 (aCons (eOp dIx (eL (fLst (aInts [1, 2, 2, 3, 1, 3, 4, 0]))) (eCall takeP (aCons (eVar 0) (aCons (eC (.int 8)) aNil)))) aNil)) (gN 3) (sSeq (sAsg (eOp dAdd (eC (.int 1)) (eCall takeP (aCons (eVar 0) (aCons (eVar 1) aNil)))) (gN 4))
  (sIf (tAndP (tBool (eOp (dIn true) (eVar 4) (eVar 2))) (tBool (eOp (dIn true) (eUn dNeg (eVar 4)) (eVar 2)))) (sApp 2 (eOp dIx (eL (fLst (aCons (eVar 4) (aCons (eUn dNeg (eVar 4)) aNil)))) (eCall takeP (aCons (eVar 0) (aCons (eC (.int 2)) aNil))))) sNext)))
  (sRet (eCB (d1 dTupOf) (aCons (eL (fSort (aCons (eVar 2) aNil))) aNil)))))
def g__law_tuple : List PyData → Pp PyData := fun ds Q => ds.length = 2 ∧ fnD 3 b__law_tuple ds Q
theorem ok__law_tuple {f : Addr} {fd : FuncData} (F : Fun K "_law_tuple" "_law_tuple" s__law_tuple f fd) (T : Tx mg) (c__law_take : DL.Callee P w K mg base 1 "_law_take" ["jar", "many"] (spX K (famD (Dr K)) takeP)) : FnOk P w K mg base CX0 2 f fd ["jar", "size"] (spX K (famD (Dr K)) g__law_tuple) :=
  fn_okX (k := 1) (fb := b__law_tuple) F sc__law_tuple nmq__law_tuple (fun _ _ h => h)
  (xs_cons (xs_own 2 (xf_lst xa_nil))
  (xs_cons (xs_for (xi_r1 T.range (xa_cons (x_ix (xf_lst (xa_ints (by decide +kernel))).x (x_callM c__law_take (xa_cons (x_var 0) (xa_cons x_int xa_nil)))) xa_nil)) (xg_name 3) (xs_cons (xs_set 4 (x_add x_int (x_callM c__law_take (xa_cons (x_var 0) (xa_cons (x_var 1) xa_nil)))))
  (xs_one (xs_if (xt_w (xw_and (xt_notIn (x_var 4) (x_var 2)) (xw_and1 (xt_notIn (x_neg (x_var 4)) (x_var 2))))) (xs_one (xs_app 2 (x_ix (xf_lst (xa_cons (x_var 4) (xa_cons (x_neg (x_var 4)) xa_nil))).x (x_callM c__law_take (xa_cons (x_var 0) (xa_cons x_int xa_nil)))))) xs_nil))))
  (xs_one (xs_ret (x_tuple T.tuple (xa_cons (xf_sort T.sorted (xa_cons (x_var 2) xa_nil)).x xa_nil))))))
abbrev s__law_pairs : Stmt := top 9
abbrev N__law_pairs : List Str := ["jar", "size", "many", "powers", "found", "k", "words"]
abbrev nm__law_pairs : List (Str × NameKind) := [("jar", .local), ("size", .local), ("many", .local), ("powers", .local), ("found", .local), ("k", .local), ("words", .local), ("_law_take", .globalImplicit), ("range", .globalImplicit), ("_law_tuple", .globalImplicit)]
theorem sc__law_pairs : FnScope N__law_pairs ["jar", "size", "many"] (defScope s__law_pairs) := ⟨rfl, rfl, rfl, by decide +kernel, rfl, by decide +kernel, by decide +kernel⟩
theorem nmq__law_pairs : (defScope s__law_pairs).names = nm__law_pairs := rfl
def b__law_pairsF : Sm :=
  (sSeq (sAsg (eOp dIx (eL (fLst (aCons (eL (fLst (aCons (eC (.int 1)) (aCons (eC (.int 1)) (aCons (eC (.int 1)) aNil))))) (aCons (eL (fLst (aCons (eC (.int 1)) (aCons (eC (.int 1)) (aCons (eC (.int 1)) aNil))))) (aCons (eL (fLst (aCons (eC (.int 1)) (aCons (eC (.int 1)) (aCons (eC (.int 10)) aNil))))) (aCons (eL (fLst (aCons (eC (.int 1)) (aCons (eOp dPow (eC (.int 10)) (eC (.int 3))) (aCons (eOp dPow (eC (.int 10)) (eC (.int 5))) aNil))))) (aCons (eL (fLst (aCons (eC (.int 1)) (aCons (eOp dPow (eC (.int 10)) (eC (.int 29))) (aCons (eOp dPow (eC (.int 10)) (eC (.int 59))) aNil))))) aNil))))))) (eCall takeP (aCons (eVar 0) (aCons (eC (.int 5)) aNil)))) (gN 3))
  (sSeq (sOwn (fLst aNil) 4)
  (sSeq (sFor (iR1 (aCons (eVar 2) aNil)) (gN 5) (sSeq (sAsg (eCall g__law_tuple (aCons (eVar 0) (aCons (eVar 1) aNil))) (gN 6))
  (sApp 4 (eTup (aCons (eVar 6) (aCons (eOp dMul (eOp dAdd (eC (.int 1)) (eCall takeP (aCons (eVar 0) (aCons (eC (.int 9)) aNil)))) (eOp dIx (eVar 3) (eCall takeP (aCons (eVar 0) (aCons (eC (.int 3)) aNil))))) aNil))))))
  (sRetO 4))))
def g__law_pairsF : List PyData → Pp (List PyData) := fun ds Q => ds.length = 3 ∧ fnPF 4 b__law_pairsF ds Q
theorem ok__law_pairsF {f : Addr} {fd : FuncData} (F : Fun K "_law_pairs" "_law_pairs" s__law_pairs f fd) (T : Tx mg) (c__law_take : DL.Callee P w K mg base 1 "_law_take" ["jar", "many"] (spX K (famD (Dr K)) takeP)) (c__law_tuple : DL.Callee P w K mg base 2 "_law_tuple" ["jar", "size"] (spX K (famD (Dr K)) g__law_tuple)) : FnOk P w K mg base CX0 3 f fd ["jar", "size", "many"] (spXF K (famD (Dr K)) g__law_pairsF) :=
  fn_okXF (k := 2) (fb := b__law_pairsF) F sc__law_pairs nmq__law_pairs (fun _ _ h => h)
  (xs_cons (xs_set 3 (x_ix (xf_lst (xa_cons (xf_lst (xa_cons x_int (xa_cons x_int (xa_cons x_int xa_nil)))).x (xa_cons (xf_lst (xa_cons x_int (xa_cons x_int (xa_cons x_int xa_nil)))).x (xa_cons (xf_lst (xa_cons x_int (xa_cons x_int (xa_cons x_int xa_nil)))).x (xa_cons (xf_lst (xa_cons x_int (xa_cons (x_pow x_int x_int) (xa_cons (x_pow x_int x_int) xa_nil)))).x (xa_cons (xf_lst (xa_cons x_int (xa_cons (x_pow x_int x_int) (xa_cons (x_pow x_int x_int) xa_nil)))).x xa_nil)))))).x (x_callM c__law_take (xa_cons (x_var 0) (xa_cons x_int xa_nil)))))
  (xs_cons (xs_own 4 (xf_lst xa_nil))
  (xs_cons (xs_for (xi_r1 T.range (xa_cons (x_var 2) xa_nil)) (xg_name 5) (xs_cons (xs_set 6 (x_callM c__law_tuple (xa_cons (x_var 0) (xa_cons (x_var 1) xa_nil))))
  (xs_one (xs_app 4 (x_tup (xa_cons (x_var 6) (xa_cons (x_mul (x_add x_int (x_callM c__law_take (xa_cons (x_var 0) (xa_cons x_int xa_nil)))) (x_ix (x_var 3) (x_callM c__law_take (xa_cons (x_var 0) (xa_cons x_int xa_nil))))) xa_nil)))))))
  (xs_one (xs_retO 4)))))
abbrev s__law_gathered : Stmt := top 10
abbrev N__law_gathered : List Str := ["pairs", "found", "words", "weight", "pair"]
abbrev nm__law_gathered : List (Str × NameKind) := [("pairs", .local), ("found", .local), ("words", .cell), ("weight", .local), ("sorted", .globalImplicit), ("set", .globalImplicit), ("sum", .globalImplicit)]
def b__law_gatheredF : Sm :=
  (sSeq (sOwn (fLst aNil) 1)
  (sSeq (sFor (iSeq (eL (fSS (aCons (eL (fLc (iSeq (eVar 0)) (gN 4) (fun _ => ret true) (eOp dIx (eVar 4) (eC (.int 0))) [4])) aNil)))) (gN 2) (sSeq (sAsg (eCB (d1 dSum) (aCons (eL (fLc (iSeq (eVar 0)) (gN 4) (tBool (eOp dEq (eOp dIx (eVar 4) (eC (.int 0))) (eVar 2))) (eOp dIx (eVar 4) (eC (.int 1))) [4])) aNil)) (gN 3))
  (sIf (tBool (eOp dGt (eVar 3) (eC (.int 0)))) (sApp 1 (eTup (aCons (eVar 2) (aCons (eVar 3) aNil)))) sNext)))
  (sRetO 1)))
def g__law_gatheredF : List PyData → Pp (List PyData) := fun ds Q => ds.length = 1 ∧ fnPF 4 b__law_gatheredF ds Q
abbrev s__law_name : Stmt := top 11
abbrev N__law_name : List Str := ["one", "other", "opposite", "name"]
abbrev nm__law_name : List (Str × NameKind) := [("one", .cell), ("other", .cell), ("opposite", .local), ("range", .globalImplicit), ("len", .globalImplicit)]
theorem sc__law_name : FnScope N__law_name ["one", "other"] (defScope s__law_name) := ⟨rfl, rfl, rfl, by decide +kernel, rfl, by decide +kernel, by decide +kernel⟩
theorem nmq__law_name : (defScope s__law_name).names = nm__law_name := rfl
def b__law_name : Sm :=
  (sSeq (sAsg (eL (fLc (iR2 (aCons (eC (.int 1)) (aCons (eC (.int 9)) aNil))) (gN 3) (tOrP (tAndP (tBool (eOp (dIn false) (eVar 3) (eVar 0))) (tBool (eOp (dIn false) (eUn dNeg (eVar 3)) (eVar 1)))) (tAndP (tBool (eOp (dIn false) (eUn dNeg (eVar 3)) (eVar 0))) (tBool (eOp (dIn false) (eVar 3) (eVar 1))))) (eVar 3) [3])) (gN 2))
  (sSeq (sIf (tAndP (tBool (eOp dEq (eCB (d1 dLen) (aCons (eVar 2) aNil)) (eC (.int 1)))) (tBool (eOp (dIn false) (eOp dIx (eVar 2) (eC (.int 0))) (eVar 0)))) (sRet (eOp dIx (eVar 2) (eC (.int 0)))) sNext)
  (sRet (eC (.int 0)))))
def g__law_name : List PyData → Pp PyData := fun ds Q => ds.length = 2 ∧ fnP 2 b__law_name ds Q
theorem ok__law_name {f : Addr} {fd : FuncData} (F : Fun K "_law_name" "_law_name" s__law_name f fd) (T : Tx mg)  : FnOk P w K mg base CX0 1 f fd ["one", "other"] (spP K g__law_name) :=
  fn_okP (k := 0) (fb := b__law_name) F sc__law_name nmq__law_name (fun _ _ h => h)
  (xs_cons (xs_lc 2 [("name", 3)] [3] (xi_r2 T.range (xa_cons x_int (xa_cons x_int xa_nil))) (by first | decide +kernel | (dsimp only; decide +kernel)) rfl (xg_name 3) (by decide) (xts_one (xt_w (xw_or (xt_w (xw_and (xt_in (x_var 3) (x_var 0)) (xw_and1 (xt_in (x_neg (x_var 3)) (x_var 1))))) (xw_or1 (xt_w (xw_and (xt_in (x_neg (x_var 3)) (x_var 0)) (xw_and1 (xt_in (x_var 3) (x_var 1))))))))) (x_var 3))
  (xs_cons (xs_if (xt_w (xw_and (xt_eq (x_len T.len (xa_cons (x_var 2) xa_nil)) x_int) (xw_and1 (xt_in (x_ix (x_var 2) x_int) (x_var 0))))) (xs_one (xs_ret (x_ix (x_var 2) x_int))) xs_nil)
  (xs_one (xs_ret x_int))))
abbrev s__law_poured : Stmt := top 12
abbrev N__law_poured : List Str := ["pairs", "one", "other", "name", "low", "ones", "others", "new", "old", "k", "pair", "word"]
abbrev nm__law_poured : List (Str × NameKind) := [("pairs", .local), ("one", .cell), ("other", .cell), ("name", .cell), ("low", .local), ("ones", .cell), ("others", .cell), ("new", .local), ("old", .local), ("k", .local), ("_law_name", .globalImplicit), ("min", .globalImplicit), ("tuple", .globalImplicit), ("sorted", .globalImplicit), ("set", .globalImplicit), ("range", .globalImplicit), ("len", .globalImplicit), ("_law_gathered", .globalImplicit)]
def b__law_pouredF : Sm :=
  (sSeq (sAsg (eCall (gP g__law_name) (aCons (eVar 1) (aCons (eVar 2) aNil))) (gN 3))
  (sSeq (sAsg (eCB (d1 dMin) (aCons (eL (fLc (iSeq (eVar 0)) (gN 10) (tBool (eOp (dIn false) (eOp dIx (eVar 10) (eC (.int 0))) (eTup (aCons (eVar 1) (aCons (eVar 2) aNil))))) (eOp dIx (eVar 10) (eC (.int 1))) [10])) aNil)) (gN 4))
  (sSeq (sAsg (eCB (d1 dTupOf) (aCons (eL (fLc (iSeq (eVar 1)) (gN 11) (tBool (eOp dNe (eVar 11) (eVar 3))) (eVar 11) [11])) aNil)) (gN 5))
  (sSeq (sAsg (eCB (d1 dTupOf) (aCons (eL (fLc (iSeq (eVar 2)) (gN 11) (tBool (eOp dNe (eVar 11) (eUn dNeg (eVar 3)))) (eVar 11) [11])) aNil)) (gN 6))
  (sSeq (sAsg (eOp dAdd (eVar 0) (eL (fLst (aCons (eTup (aCons (eVar 1) (aCons (eUn dNeg (eVar 4)) aNil))) (aCons (eTup (aCons (eVar 2) (aCons (eUn dNeg (eVar 4)) aNil))) (aCons (eTup (aCons (eCB (d1 dTupOf) (aCons (eL (fSS (aCons (eOp dAdd (eVar 5) (eVar 6)) aNil))) aNil)) (aCons (eVar 4) aNil))) aNil)))))) (gN 0))
  (sSeq (sAsg (eCB (d1 dTupOf) (aCons (eL (fLc (iSeq (eVar 6)) (gN 11) (tBool (eOp (dIn true) (eVar 11) (eVar 5))) (eVar 11) [11])) aNil)) (gN 7))
  (sSeq (sAsg (eCB (d1 dTupOf) (aCons (eL (fLc (iSeq (eVar 5)) (gN 11) (tBool (eOp (dIn true) (eVar 11) (eVar 6))) (eVar 11) [11])) aNil)) (gN 8))
  (sSeq (sFor (iR1 (aCons (eCB (d1 dLen) (aCons (eVar 7) aNil)) aNil)) (gN 9) (sAsg (eOp dAdd (eVar 0) (eL (fLst (aCons (eTup (aCons (eCB (d1 dTupOf) (aCons (eL (fSort (aCons (eOp dAdd (eOp dAdd (eOp dAdd (eTup (aCons (eVar 3) aNil)) (eVar 5)) (eSl (eVar 7) oNo (oSo (eVar 9)))) (eTup (aCons (eUn dNeg (eOp dIx (eVar 7) (eVar 9))) aNil))) aNil))) aNil)) (aCons (eVar 4) aNil))) aNil)))) (gN 0)))
  (sSeq (sFor (iR1 (aCons (eCB (d1 dLen) (aCons (eVar 8) aNil)) aNil)) (gN 9) (sAsg (eOp dAdd (eVar 0) (eL (fLst (aCons (eTup (aCons (eCB (d1 dTupOf) (aCons (eL (fSort (aCons (eOp dAdd (eOp dAdd (eOp dAdd (eTup (aCons (eUn dNeg (eVar 3)) aNil)) (eVar 6)) (eSl (eVar 8) oNo (oSo (eVar 9)))) (eTup (aCons (eUn dNeg (eOp dIx (eVar 8) (eVar 9))) aNil))) aNil))) aNil)) (aCons (eVar 4) aNil))) aNil)))) (gN 0)))
  (sRetF (eCallF (gPF g__law_gatheredF) (aCons (eVar 0) aNil))))))))))))
def g__law_pouredF : List PyData → Pp (List PyData) := fun ds Q => ds.length = 3 ∧ fnPF 9 b__law_pouredF ds Q
abbrev s__law_pours : Stmt := top 13
abbrev N__law_pours : List Str := ["pairs", "name", "others", "found", "one", "weight", "pair", "other"]
abbrev nm__law_pours : List (Str × NameKind) := [("pairs", .local), ("name", .cell), ("others", .local), ("found", .local), ("one", .cell), ("weight", .local)]
theorem sc__law_pours : FnScope N__law_pours ["pairs", "name"] (defScope s__law_pours) := ⟨rfl, rfl, rfl, by decide +kernel, rfl, by decide +kernel, by decide +kernel⟩
theorem nmq__law_pours : (defScope s__law_pours).names = nm__law_pours := rfl
def b__law_poursF : Sm :=
  (sSeq (sAsg (eL (fLc (iSeq (eVar 0)) (gN 6) (tBool (eOp (dIn false) (eUn dNeg (eVar 1)) (eOp dIx (eVar 6) (eC (.int 0))))) (eOp dIx (eVar 6) (eC (.int 0))) [6])) (gN 2))
  (sSeq (sOwn (fLst aNil) 3)
  (sSeq (sFor (iSeq (eVar 0)) (gT 2 (gsCons (gN 4) (gsCons (gN 5) gsNil))) (sIf (tBool (eOp (dIn false) (eVar 1) (eVar 4))) (sExt 3 (eL (fLc (iSeq (eVar 2)) (gN 7) (tBool (eOp dEq (eCall (gP g__law_name) (aCons (eVar 4) (aCons (eVar 7) aNil))) (eVar 1))) (eTup (aCons (eVar 4) (aCons (eVar 7) aNil))) [7]))) sNext))
  (sRetO 3))))
def g__law_poursF : List PyData → Pp (List PyData) := fun ds Q => ds.length = 2 ∧ fnPF 6 b__law_poursF ds Q
theorem ok__law_poursF {f : Addr} {fd : FuncData} (F : Fun K "_law_pours" "_law_pours" s__law_pours f fd) (T : Tx mg) (c__law_name : DL.Callee P w K mg base 1 "_law_name" ["one", "other"] (spP K g__law_name)) : FnOk P w K mg base CX0 2 f fd ["pairs", "name"] (spPF K g__law_poursF) :=
  fn_okPF (k := 1) (fb := b__law_poursF) F sc__law_pours nmq__law_pours (fun _ _ h => h)
  (xs_cons (xs_lc 2 [("pair", 6)] [6] (xi_seq (x_var 0)) (by first | decide +kernel | (dsimp only; decide +kernel)) rfl (xg_name 6) (by decide) (xts_one (xt_in (x_neg (x_var 1)) (x_ix (x_var 6) x_int))) (x_ix (x_var 6) x_int))
  (xs_cons (xs_own 3 (xf_lst xa_nil))
  (xs_cons (xs_for (xi_seq (x_var 0)) (xg_tup (xgs_cons (xg_name 4) (xgs_cons (xg_name 5) xgs_nil))) (xs_one (xs_if (xt_in (x_var 1) (x_var 4)) (xs_one (xs_ext 3 (xf_lc [("other", 7)] [7] (xi_seq (x_var 2)) (by first | decide +kernel | (dsimp only; decide +kernel)) rfl (xg_name 7) (by decide) (xts_one (xt_eq (x_callP c__law_name (xa_cons (x_var 4) (xa_cons (x_var 7) xa_nil))) (x_var 1))) (x_tup (xa_cons (x_var 4) (xa_cons (x_var 7) xa_nil)))).x)) xs_nil)))
  (xs_one (xs_retO 3)))))
abbrev s__law_same : Stmt := top 14
abbrev N__law_same : List Str := ["found", "due", "one", "other"]
abbrev nm__law_same : List (Str × NameKind) := [("found", .local), ("due", .local), ("isinstance", .globalImplicit), ("tuple", .globalImplicit), ("list", .globalImplicit), ("len", .globalImplicit), ("all", .globalImplicit), ("zip", .globalImplicit), ("bool", .globalImplicit)]
theorem sc__law_same : FnScope N__law_same ["found", "due"] (defScope s__law_same) := ⟨rfl, rfl, rfl, by decide +kernel, rfl, by decide +kernel, by decide +kernel⟩
theorem nmq__law_same : (defScope s__law_same).names = nm__law_same := rfl
def b__law_same (gR : List PyData → Pp PyData) : Sm :=
  (sSeq (sIf (tBool (eIsiLT (eVar 1))) (sSeq (sIf (tOrP (tBool (eOp dNe (eIsi "list" (eVar 0)) (eIsi "list" (eVar 1)))) (tNotP (tBool (eIsiLT (eVar 0))))) (sRet (eC (.bool false))) sNext)
  (sRet (eAnd (eOp dEq (eCB (d1 dLen) (aCons (eVar 0) aNil)) (eCB (d1 dLen) (aCons (eVar 1) aNil))) (eCB (d1 dAll) (aCons (eL (fLc (iZp (aCons (eVar 0) (aCons (eVar 1) aNil))) (gT 2 (gsCons (gN 2) (gsCons (gN 3) gsNil))) (fun _ => ret true) (eCall (gP gR) (aCons (eVar 2) (aCons (eVar 3) aNil))) [2, 3])) aNil))))) sNext)
  (sSeq (sIf (tOrP (tBool (eIsi "bool" (eVar 1))) (tBool (eIsi "bool" (eVar 0)))) (sRet (eAnd (eIsi "bool" (eVar 1)) (eAnd (eIsi "bool" (eVar 0)) (eOp dEq (eVar 0) (eVar 1))))) sNext)
  (sRet (eOp dEq (eVar 0) (eVar 1)))))
def g__law_same : Nat → List PyData → Pp PyData
  | 0 => fun _ _ => False
  | fu + 1 => fun ds Q => ds.length = 2 ∧ fnP 2 (b__law_same (g__law_same fu)) ds Q
theorem ok__law_same {fu j : Nat} {f : Addr} {fd : FuncData} (F : Fun K "_law_same" "_law_same" s__law_same f fd) (T : Tx mg) (cR : DL.Callee P w K mg base j "_law_same" ["found", "due"] (spP K (g__law_same fu)))  : FnOk P w K mg base CX0 (j + 1) f fd ["found", "due"] (spP K (g__law_same (fu + 1))) :=
  fn_okP (k := j + 0) (fb := b__law_same (g__law_same fu)) F sc__law_same nmq__law_same (fun _ _ h => h)
  (xs_cons (xs_if (xt_val (x_isiTL T.isinstance T.tuple T.list (x_var 1))) (xs_cons (xs_if (xt_w (xw_or (xt_ne (x_isi (T := "list") (x := "list") (by unfold isiT; simp) T.isinstance T.list (by decide +kernel) (x_var 0)) (x_isi (T := "list") (x := "list") (by unfold isiT; simp) T.isinstance T.list (by decide +kernel) (x_var 1))) (xw_or1 (xt_not (xt_val (x_isiTL T.isinstance T.tuple T.list (x_var 0))))))) (xs_one (xs_ret x_bl)) xs_nil)
  (xs_one (xs_ret (x_and (x_eq (x_len T.len (xa_cons (x_var 0) xa_nil)) (x_len T.len (xa_cons (x_var 1) xa_nil))) (x_one (x_all T.all (xa_cons (xf_lc [("one", 2), ("other", 3)] [2, 3] (xi_zip T.zip (xa_cons (x_var 0) (xa_cons (x_var 1) xa_nil))) (by first | decide +kernel | (dsimp only; decide +kernel)) rfl (xg_tup (xgs_cons (xg_name 2) (xgs_cons (xg_name 3) xgs_nil))) (by decide) xts_nil (x_callP cR (xa_cons (x_var 2) (xa_cons (x_var 3) xa_nil)))).x xa_nil))))))) xs_nil)
  (xs_cons (xs_if (xt_w (xw_or (xt_val (x_isi (T := "bool") (x := "bool") (by unfold isiT; simp) T.isinstance T.bool (by decide +kernel) (x_var 1))) (xw_or1 (xt_val (x_isi (T := "bool") (x := "bool") (by unfold isiT; simp) T.isinstance T.bool (by decide +kernel) (x_var 0)))))) (xs_one (xs_ret (x_and (x_isi (T := "bool") (x := "bool") (by unfold isiT; simp) T.isinstance T.bool (by decide +kernel) (x_var 1)) (x_and (x_isi (T := "bool") (x := "bool") (by unfold isiT; simp) T.isinstance T.bool (by decide +kernel) (x_var 0)) (x_one (x_eq (x_var 0) (x_var 1))))))) xs_nil)
  (xs_one (xs_ret (x_eq (x_var 0) (x_var 1))))))
theorem all__law_same {f : Addr} {fd : FuncData} (F : Fun K "_law_same" "_law_same" s__law_same f fd) (bd : Binds K fd ["found", "due"] []) (hm : mg "_law_same" = some (.ref f)) (T : Tx mg)  : ∀ fu : Nat, DL.Callee P w K mg base (1 * fu) "_law_same" ["found", "due"] (spP K (g__law_same fu))
  | 0 => ⟨f, fd, none_fn (fun vs H Q E h => by first | (obtain ⟨_, _, _, _, _, _, h, _⟩ := h; exact h) | (obtain ⟨_, _, _, _, _, _, _, _, _, h, _⟩ := h; exact h)), bd, F.kp, hm⟩
  | fu + 1 => ⟨f, fd, ok__law_same F T (all__law_same F bd hm T  fu) , bd, F.kp, hm⟩
abbrev s_law : Stmt := top 15
abbrev N_law : List Str := ["script", "jar", "turn", "size", "mixture", "kept", "name", "due", "found"]
abbrev nm_law : List (Str × NameKind) := [("script", .local), ("jar", .local), ("turn", .local), ("size", .local), ("mixture", .local), ("kept", .local), ("name", .local), ("due", .local), ("found", .local), ("_law_jar", .globalImplicit), ("range", .globalImplicit), ("_law_take", .globalImplicit), ("made_pot", .globalImplicit), ("_law_pairs", .globalImplicit), ("list", .globalImplicit), ("_law_pours", .globalImplicit), ("pours_now", .globalImplicit), ("_law_same", .globalImplicit)]
theorem sc_law : FnScope N_law ["script"] (defScope s_law) := ⟨rfl, rfl, rfl, by decide +kernel, rfl, by decide +kernel, by decide +kernel⟩
theorem nmq_law : (defScope s_law).names = nm_law := rfl
def b_law_1 : Sm :=
  (sIf (tOrP (tBool (eOp dNe (eL (eCallF (gPF g_pours_nowF) (aCons (eVar 4) (aCons (eVar 6) aNil)))) (eVar 7))) (tBool (eOp dNe (eVar 4) (eVar 5)))) (sRet (eC (.bool false))) sNext)
def b_law_2 : Sm :=
  (sSeq (sClr 8)
  b_law_1)
def b_law_3 : Sm :=
  (sSeq (sIf (tNotP (tTru (eCall (gP (g__law_same 13)) (aCons (eVar 8) (aCons (eVar 7) aNil))))) (sRet (eC (.bool false))) sNext)
  b_law_2)
def b_law_4 : Sm :=
  (sSeq (sOwn (eCallF (gPF g_pours_nowF) (aCons (eVar 4) (aCons (eVar 6) aNil))) 8)
  b_law_3)
def b_law_5 : Sm :=
  (sSeq (sAsg (eL (eCallF (gPF g__law_poursF) (aCons (eVar 5) (aCons (eVar 6) aNil)))) (gN 7))
  b_law_4)
def b_law_6 : Sm :=
  (sFor (iR2 (aCons (eC (.int 1)) (aCons (eC (.int 9)) aNil))) (gN 6) b_law_5)
def b_law_7 : Sm :=
  (sSeq (sAsg (eCB (d1 dLstOf) (aCons (eVar 4) aNil)) (gN 5))
  b_law_6)
def b_law_8 : Sm :=
  (sSeq (sAsg (eL (eCallF (gPF g_made_potF) (aCons (eL (eCallF g__law_pairsF (aCons (eVar 1) (aCons (eVar 3) (aCons (eOp dIx (eL (fLst (aInts [6, 4, 8, 10, 12, 3, 0, 24]))) (eCall takeP (aCons (eVar 1) (aCons (eC (.int 8)) aNil)))) aNil))))) aNil))) (gN 4))
  b_law_7)
def b_law_9 : Sm :=
  (sSeq (sAsg (eOp dIx (eL (fLst (aInts [3, 2, 4, 5, 1, 6, 7, 8]))) (eCall takeP (aCons (eVar 1) (aCons (eC (.int 8)) aNil)))) (gN 3))
  b_law_8)
def b_law_10 : Sm :=
  (sRet (eC (.bool true)))
def b_law : Sm :=
  (sSeq (sFor (iR1 (aCons (eC (.int 2)) aNil)) (gN 2) b_law_9)
  b_law_10)
theorem ok_law {f : Addr} {fd : FuncData} (F : Fun K "law" "law" s_law f fd) (T : Tx mg) (cP : DL.Callee P w K mg base 2 "_law_jar" ["script"] (spPo K (Dr K) [])) (c__law_take : DL.Callee P w K mg base 1 "_law_take" ["jar", "many"] (spX K (famD (Dr K)) takeP)) (c__law_pairsF : DL.Callee P w K mg base 3 "_law_pairs" ["jar", "size", "many"] (spXF K (famD (Dr K)) g__law_pairsF)) (c_made_potF : DL.Callee P w K mg base 1 "made_pot" ["pairs"] (spPF K g_made_potF)) (c__law_poursF : DL.Callee P w K mg base 2 "_law_pours" ["pairs", "name"] (spPF K g__law_poursF)) (c_pours_nowF : DL.Callee P w K mg base 2 "pours_now" ["pot", "name"] (spPF K g_pours_nowF)) (c__law_same : DL.Callee P w K mg base 13 "_law_same" ["found", "due"] (spP K (g__law_same 13))) (hlaw : b_law eLaw (ρLaw 7)) : FnOk P w K mg base CX0 15 f fd ["script"] (spLaw K) :=
  law_okG (k := 14) (drLoc K) F sc_law nmq_law rfl (fun X h => pa_nil) (fun σ H Q q => q) (fun _ => rfl) (fun _ => rfl) (fun _ => rfl) cP (by decide) rfl rfl rfl rfl (by first | exact .inl rfl | exact .inr rfl) (by decide)
  (xs_cons (xs_for (xi_r1 T.range (xa_cons x_int xa_nil)) (xg_name 2) (xs_cons (xs_set 3 (x_ix (xf_lst (xa_ints (by decide +kernel))).x (x_callM c__law_take (xa_cons (x_var 1) (xa_cons x_int xa_nil)))))
  (xs_cons (xs_set 4 (xf_callP c_made_potF (xa_cons (xf_callM c__law_pairsF (xa_cons (x_var 1) (xa_cons (x_var 3) (xa_cons (x_ix (xf_lst (xa_ints (by decide +kernel))).x (x_callM c__law_take (xa_cons (x_var 1) (xa_cons x_int xa_nil)))) xa_nil)))).x xa_nil)).x)
  (xs_cons (xs_set 5 (x_list T.list (xa_cons (x_var 4) xa_nil)))
  (xs_one (xs_for (xi_r2 T.range (xa_cons x_int (xa_cons x_int xa_nil))) (xg_name 6) (xs_cons (xs_set 7 (xf_callP c__law_poursF (xa_cons (x_var 5) (xa_cons (x_var 6) xa_nil))).x)
  (xs_cons (xs_own 8 (xf_callP c_pours_nowF (xa_cons (x_var 4) (xa_cons (x_var 6) xa_nil))))
  (xs_cons (xs_if (xt_not (xt_tru (x_callP c__law_same (xa_cons (x_var 8) (xa_cons (x_var 7) xa_nil))))) (xs_one (xs_ret x_bl)) xs_nil)
  (xs_cons (xs_clr 8)
  (xs_one (xs_if (xt_w (xw_or (xt_ne (xf_callP c_pours_nowF (xa_cons (x_var 4) (xa_cons (x_var 6) xa_nil))).x (x_var 7)) (xw_or1 (xt_ne (x_var 4) (x_var 5))))) (xs_one (xs_ret x_bl)) xs_nil))))))))))))
  (xs_one (xs_ret x_bl))) hlaw
end
end WD
set_option Elab.async false
set_option linter.all false
set_option maxRecDepth 100000
set_option maxHeartbeats 400000
namespace WD
open PySem L2 DL
@[simp] theorem ok_kept : PyData.strOk "kept" = true := by decide +kernel
@[simp] theorem ok_open : PyData.strOk "open" = true := by decide +kernel
@[simp] theorem ok_broken : PyData.strOk "broken" = true := by decide +kernel
@[simp] theorem ok_or : PyData.strOk "or" = true := by decide +kernel
@[simp] theorem ok_few : PyData.strOk "few" = true := by decide +kernel
@[simp] theorem ok_not : PyData.strOk "not" = true := by decide +kernel
@[simp] theorem ne1 : ((Str.ofString "kept" : Str) = Str.ofString "broken") = False := eq_false (by decide +kernel)
@[simp] theorem ne2 : ((Str.ofString "open" : Str) = Str.ofString "broken") = False := eq_false (by decide +kernel)
@[simp] theorem ne3 : ((Str.ofString "open" : Str) = Str.ofString "kept") = False := eq_false (by decide +kernel)
@[simp] theorem ne4 : ((Str.ofString "broken" : Str) = Str.ofString "kept") = False := eq_false (by decide +kernel)
@[simp] theorem ne5 : ((Str.ofString "few" : Str) = Str.ofString "or") = False := eq_false (by decide +kernel)
@[simp] theorem ne6 : ((Str.ofString "not" : Str) = Str.ofString "or") = False := eq_false (by decide +kernel)
@[simp] theorem ne7 : ((Str.ofString "not" : Str) = Str.ofString "few") = False := eq_false (by decide +kernel)
@[simp] theorem ne8 : ((Str.ofString "kept" : Str) = Str.ofString "open") = False := eq_false (by decide +kernel)
@[simp] theorem ne9 : ((Str.ofString "broken" : Str) = Str.ofString "open") = False := eq_false (by decide +kernel)
@[simp] theorem ne10 : ((Str.ofString "or" : Str) = Str.ofString "not") = False := eq_false (by decide +kernel)
@[simp] theorem ne11 : ((Str.ofString "or" : Str) = Str.ofString "few") = False := eq_false (by decide +kernel)
@[simp] theorem ne12 : ((Str.ofString "few" : Str) = Str.ofString "not") = False := eq_false (by decide +kernel)
theorem sl {n : Nat} (h : n ≤ 100000) : n ≤ sizeLine := Nat.le_trans h (by rw [line_eq]; decide)
theorem slt {n : Nat} (h : n ≤ 100000) : n < sizeLine := Nat.lt_of_le_of_lt h (by rw [line_eq]; decide)
theorem sli {j : Int} (h : j ≤ 100000) : j ≤ (sizeLine : Int) := Int.le_trans h (by rw [line_eq]; decide)
@[simp] theorem sl_0 : (0 ≤ sizeLine) = True := eq_true (sl (by decide))
@[simp] theorem sl_1 : (1 ≤ sizeLine) = True := eq_true (sl (by decide))
@[simp] theorem sl_2 : (2 ≤ sizeLine) = True := eq_true (sl (by decide))
@[simp] theorem sl_3 : (3 ≤ sizeLine) = True := eq_true (sl (by decide))
@[simp] theorem sl_4 : (4 ≤ sizeLine) = True := eq_true (sl (by decide))
@[simp] theorem sl_5 : (5 ≤ sizeLine) = True := eq_true (sl (by decide))
@[simp] theorem sl_6 : (6 ≤ sizeLine) = True := eq_true (sl (by decide))
@[simp] theorem sl_7 : (7 ≤ sizeLine) = True := eq_true (sl (by decide))
@[simp] theorem sl_8 : (8 ≤ sizeLine) = True := eq_true (sl (by decide))
@[simp] theorem sl_9 : (9 ≤ sizeLine) = True := eq_true (sl (by decide))
@[simp] theorem sl_10 : (10 ≤ sizeLine) = True := eq_true (sl (by decide))
@[simp] theorem sl_11 : (11 ≤ sizeLine) = True := eq_true (sl (by decide))
@[simp] theorem sl_12 : (12 ≤ sizeLine) = True := eq_true (sl (by decide))
@[simp] theorem slt_0 : (0 < sizeLine) = True := eq_true (slt (by decide))
@[simp] theorem slt_1 : (1 < sizeLine) = True := eq_true (slt (by decide))
@[simp] theorem sl_z : ((0 : Int) ≤ (sizeLine : Int)) = True := eq_true (sli (by decide))
mutual
def okD : PyData → Bool
  | .none | .bool _ | .int _ => true
  | .str x => PyData.strOk x
  | .list xs => okAll xs
  | .tuple xs => okAll xs
  | .dict _ => false
def okAll : List PyData → Bool
  | [] => true
  | x :: xs => okD x && okAll xs
end
mutual
def depD : PyData → Nat
  | .list xs => depAllD xs + 1
  | .tuple xs => depAllD xs + 1
  | _ => 0
def depAllD : List PyData → Nat
  | [] => 0
  | x :: xs => max (depD x) (depAllD xs)
end
theorem okAll_mem : ∀ {xs : List PyData} {x : PyData}, okAll xs = true → x ∈ xs → okD x = true
  | y :: r, x, h, hx => by
    have h : okD y = true ∧ okAll r = true := by simpa [okAll] using h
    rcases List.mem_cons.mp hx with e | hx
    · rw [e]; exact h.1
    · exact okAll_mem h.2 hx
theorem depAll_mem : ∀ {xs : List PyData} {x : PyData}, x ∈ xs → depD x ≤ depAllD xs
  | y :: r, x, hx => by
    rcases List.mem_cons.mp hx with e | hx
    · rw [e]; exact Nat.le_max_left _ _
    · exact Nat.le_trans (depAll_mem hx) (Nat.le_max_right _ _)
theorem np_ok {d : PyData} (h : okD d = true) : noPot d = true := by cases d <;> first | rfl | cases h
theorem okAll_map {α : Type} {enc : α → PyData} : ∀ {xs : List α}, (∀ x ∈ xs, okD (enc x) = true) → okAll (xs.map enc) = true
  | [], _ => rfl
  | x :: r, h => by
    show (okD (enc x) && okAll (r.map enc)) = true
    rw [h x List.mem_cons_self, okAll_map fun y hy => h y (List.mem_cons_of_mem _ hy)]; rfl
theorem dep_map {α : Type} {enc : α → PyData} {k : Nat} : ∀ {xs : List α}, (∀ x ∈ xs, depD (enc x) ≤ k) → depAllD (xs.map enc) ≤ k
  | [], _ => Nat.zero_le _
  | x :: r, h => Nat.max_le.mpr ⟨h x List.mem_cons_self, dep_map fun y hy => h y (List.mem_cons_of_mem _ hy)⟩
inductive S3 where | kpt | opn | brk deriving DecidableEq
def S3.enc : S3 → PyData
  | .kpt => .str "kept"
  | .opn => .str "open"
  | .brk => .str "broken"
def S3.wrt : S3 → Int
  | .kpt => 1
  | .opn => -1
  | .brk => 0
def notS : S3 → S3
  | .kpt => .brk
  | .opn => .opn
  | .brk => .kpt
@[simp] theorem np_S3 {s : S3} : noPot s.enc = true := by cases s <;> rfl
@[simp] theorem nl_S3 {s : S3} : noList s.enc = true := by cases s <;> rfl
inductive Rl where
  | or (ws : List Int)
  | few (m : Int) (ks : List Nat)
  | nt (k : Nat)
abbrev nI (k : Nat) : PyData := .int (k : Int)
def Rl.enc : Rl → PyData
  | .or ws => .tuple [.str "or", .tuple (ws.map PyData.int)]
  | .few m ks => .tuple [.str "few", .int m, .tuple (ks.map nI)]
  | .nt k => .tuple [.str "not", nI k]
@[simp] theorem np_Rl {r : Rl} : noPot r.enc = true := by cases r <;> rfl
def WsOk (n : Nat) (ws : List Int) : Prop := ws.length ≤ 8 ∧ ∀ w ∈ ws, w ≠ 0 ∧ w.natAbs ≤ n
def RlOk (n i : Nat) : Rl → Prop
  | .or ws => WsOk n ws
  | .few m ks => 0 ≤ m ∧ ks.length ≤ 1000 ∧ ∀ k ∈ ks, k < i
  | .nt k => k < i
def RsOk (n : Nat) (rs : List Rl) : Prop := ∀ (i : Nat) r, rs[i]? = some r → RlOk n i r
theorem RsOk.snoc {n : Nat} {rs : List Rl} {r : Rl} (h : RsOk n rs) (hr : RlOk n rs.length r) : RsOk n (rs ++ [r]) := fun i x e => by
  by_cases hi : i < rs.length
  · rw [List.getElem?_append_left hi] at e; exact h i x e
  · rw [List.getElem?_append_right (by omega)] at e
    have hi0 : i - rs.length = 0 := by
      cases q : i - rs.length with
      | zero => rfl
      | succ k => rw [q] at e; simp at e
    rw [hi0] at e
    simp at e
    subst e
    have : i = rs.length := by omega
    rw [this]; exact hr
abbrev Ps := List (Option Int)
def eO : Option Int → PyData
  | none => .none
  | some i => .int i
def encP (ms : Ps) : PyData := .tuple (ms.map eO)
@[simp] theorem np_encP {ms : Ps} : noPot (encP ms) = true := rfl
def PsOk (n : Nat) (ms : Ps) : Prop := ms.length = n ∧ ∀ m ∈ ms, m = none ∨ m = some 0 ∨ m = some 1
def atW (ms : Ps) (w : Int) : Option Int := ms.getD (w.natAbs - 1) none
def wrS (ms : Ps) (w : Int) : Bool := decide (atW ms w = some (if 0 < w then 1 else 0))
def opS (ms : Ps) (w : Int) : Bool := decide (atW ms w = none)
def orS (ws : List Int) (ms : Ps) : S3 := if ws.any (wrS ms) = true then .kpt else if ws.any (opS ms) = true then .opn else .brk
def fewS (m : Int) (xs : List S3) : S3 := if m < (xs.countP fun s => s = .brk : Nat) then .brk else if (xs.length : Int) - (xs.countP fun s => s = .kpt : Nat) ≤ m then .kpt else .opn
def dAt (done : List S3) (k : Nat) : S3 := done.getD k .opn
def ruleS (ms : Ps) (done : List S3) : Rl → S3
  | .or ws => orS ws ms
  | .few m ks => fewS m (ks.map (dAt done))
  | .nt k => notS (dAt done k)
def rulesS (ms : Ps) (rs : List Rl) : List S3 := rs.foldl (fun done r => done ++ [ruleS ms done r]) []
theorem atI_lt {α : Type} {xs : List α} {i : Nat} (h : i < xs.length) : atI xs (i : Int) = xs[i]? := by
  unfold L2.atI ixN
  rw [if_pos (by omega), if_pos (by omega)]
  rfl
theorem atI_nat' {α : Type} {xs : List α} {k : Int} (h0 : 0 ≤ k) (h : k.toNat < xs.length) : atI xs k = xs[k.toNat]? := by
  obtain ⟨i, rfl⟩ := Int.eq_ofNat_of_zero_le h0
  exact atI_lt (by simpa using h)
@[simp] theorem at0 {α : Type} {x : α} {xs : List α} : atI (x :: xs) 0 = some x := by
  have := atI_lt (xs := x :: xs) (i := 0) (by simp)
  simpa using this
@[simp] theorem at1 {α : Type} {x y : α} {xs : List α} : atI (x :: y :: xs) 1 = some y := by
  have := atI_lt (xs := x :: y :: xs) (i := 1) (by simp)
  simpa using this
@[simp] theorem at2 {α : Type} {x y z : α} {xs : List α} : atI (x :: y :: z :: xs) 2 = some z := by
  have := atI_lt (xs := x :: y :: z :: xs) (i := 2) (by simp)
  simpa using this
@[simp] theorem at3 {α : Type} {x y z u : α} {xs : List α} : atI (x :: y :: z :: u :: xs) 3 = some u := by
  have := atI_lt (xs := x :: y :: z :: u :: xs) (i := 3) (by simp)
  simpa using this
@[simp] theorem at4 {α : Type} {x y z u v : α} {xs : List α} : atI (x :: y :: z :: u :: v :: xs) 4 = some v := by
  have := atI_lt (xs := x :: y :: z :: u :: v :: xs) (i := 4) (by simp)
  simpa using this
theorem s_pow {i j : Int} (h0 : 0 ≤ j) (h1 : j ≤ 1000000) (h2 : i.natAbs < 2 ^ 64) : dPow (.int i) (.int j) = some (.int (i ^ j.toNat)) := by
  show (if (decide (0 ≤ j) && (decide (j ≤ 1000000) && decide (i.natAbs < 2 ^ 64))) = true then some (PyData.int (i ^ j.toNat)) else none) = _
  rw [if_pos]
  rw [decide_eq_true h0, decide_eq_true h1, decide_eq_true h2]; rfl
@[simp] theorem atm1_3 {α : Type} {x y z : α} : atI [x, y, z] (-1) = some z := by
  unfold L2.atI ixN
  simp
@[simp] theorem eq_eO1 {m : Option Int} {i : Int} : dEq (eO m) (.int i) = some (.bool (decide (m = some i))) := by
  cases m with
  | none =>
    have : dEq .none (.int i) = some (.bool false) := by
      unfold dEq
      rw [if_pos ⟨rfl, rfl⟩]
      simp [PyData.eqv]
    simp [eO, this]
  | some j => simp [eO]
@[simp] theorem isN_eO {m : Option Int} : isNoneD (eO m) = decide (m = none) := by cases m <;> simp [eO]
@[simp] theorem np_eO {m : Option Int} : noPot (eO m) = true := by cases m <;> rfl
abbrev St := List Int
def sP (s : St) : Ps := s.map some
def encS (s : St) : PyData := .tuple (s.map PyData.int)
@[simp] theorem np_encS {s : St} : noPot (encS s) = true := rfl
def StOk (n : Nat) (s : St) : Prop := s.length = n ∧ ∀ x ∈ s, x = 0 ∨ x = 1
theorem StOk.ps {n : Nat} {s : St} (h : StOk n s) : PsOk n (sP s) := ⟨by unfold sP; rw [List.length_map]; exact h.1, fun m hm => by
  obtain ⟨x, hx, rfl⟩ := List.mem_map.mp hm
  rcases h.2 x hx with e | e
  · exact .inr (.inl (by rw [e]))
  · exact .inr (.inr (by rw [e]))⟩
def ruleK (s : St) (done : List Bool) : Rl → Bool
  | .or ws => ws.any (wrS (sP s))
  | .few m ks => decide (((ks.filter fun k => !(done.getD k false)).length : Int) ≤ m)
  | .nt k => !(done.getD k false)
def rulesK (s : St) (rs : List Rl) : List Bool := rs.foldl (fun done r => done ++ [ruleK s done r]) []
def sets : Nat → List St
  | 0 => [[]]
  | n + 1 => (sets n).flatMap fun s => [s ++ [0], s ++ [1]]
mutual
theorem lay_ok : ∀ d : PyData, okD d = true → d.canLay0 = true
  | .none, _ | .bool _, _ | .int _, _ => by rw [PyData.canLay0]
  | .str x, h => by rw [PyData.canLay0]; exact h
  | .list xs, h => by rw [PyData.canLay0]; exact layAll_ok xs h
  | .tuple xs, h => by rw [PyData.canLay0]; exact layAll_ok xs h
  | .dict _, h => by cases h
theorem layAll_ok : ∀ xs : List PyData, okAll xs = true → PyData.canLayAll0 xs = true
  | [], _ => by rw [PyData.canLayAll0]
  | x :: r, h => by
    have h : okD x = true ∧ okAll r = true := by simpa [okAll] using h
    rw [PyData.canLayAll0, lay_ok x h.1, layAll_ok r h.2]; rfl
end
mutual
theorem depth_le : ∀ d : PyData, okD d = true → d.depth ≤ depD d
  | .none, _ | .bool _, _ | .int _, _ => by rw [PyData.depth]; exact Nat.zero_le _
  | .str x, h => by rw [PyData.depth]; exact Nat.zero_le _
  | .list xs, h => by rw [PyData.depth, depD]; have := depthAll_le xs h; omega
  | .tuple xs, h => by rw [PyData.depth, depD]; have := depthAll_le xs h; omega
  | .dict _, h => by cases h
theorem depthAll_le : ∀ xs : List PyData, okAll xs = true → PyData.depthAll xs ≤ depAllD xs
  | [], _ => by rw [PyData.depthAll]; exact Nat.zero_le _
  | x :: r, h => by
    have h : okD x = true ∧ okAll r = true := by simpa [okAll] using h
    rw [PyData.depthAll, depAllD]
    have := depth_le x h.1
    have := depthAll_le r h.2
    omega
end
theorem shaped_ok {d : PyData} (h : okD d = true) (hd : depD d ≤ 60) : SeqAt.shaped d = true := by
  show (d.canLay0 && decide (d.depth ≤ 64)) = true
  rw [lay_ok d h, decide_eq_true (by have := depth_le d h; omega)]; rfl
theorem eq_self {d : PyData} (h : okD d = true) (hd : depD d ≤ 60) : dEq d d = some (.bool true) := by
  unfold dEq
  rw [if_pos ⟨shaped_ok h hd, shaped_ok h hd⟩, SeqAt.eqv_refl d (lay_ok d h)]
theorem ne_self {d : PyData} (h : okD d = true) (hd : depD d ≤ 60) : dNe d d = some (.bool false) := by
  unfold dNe
  rw [if_pos ⟨shaped_ok h hd, shaped_ok h hd⟩, SeqAt.eqv_refl d (lay_ok d h)]; rfl
theorem eq_ok {a b : PyData} (ha : okD a = true) (da : depD a ≤ 60) (hb : okD b = true) (db : depD b ≤ 60) : dEq a b = some (.bool (PyData.eqv a b)) := by
  unfold dEq
  rw [if_pos ⟨shaped_ok ha da, shaped_ok hb db⟩]
@[simp] theorem eq_nn : dEq (.list []) (.list []) = some (.bool true) := eq_self rfl (by decide)
@[simp] theorem ne_nn : dNe (.list []) (.list []) = some (.bool false) := ne_self rfl (by decide)
@[simp] theorem eq_tt : dEq (.tuple []) (.tuple []) = some (.bool true) := eq_self rfl (by decide)
@[simp] theorem ne_tt : dNe (.tuple []) (.tuple []) = some (.bool false) := ne_self rfl (by decide)
mutual
def noB : PyData → Bool
  | .none | .int _ => true
  | .bool _ => false
  | .str x => PyData.strOk x
  | .list xs => noBs xs
  | .tuple xs => noBs xs
  | .dict _ => false
def noBs : List PyData → Bool
  | [] => true
  | x :: xs => noB x && noBs xs
end
mutual
theorem noB_ok : ∀ d : PyData, noB d = true → okD d = true
  | .none, _ => rfl
  | .int _, _ => rfl
  | .bool _, h => by cases h
  | .str x, h => h
  | .list xs, h => noBs_ok xs h
  | .tuple xs, h => noBs_ok xs h
  | .dict _, h => by cases h
theorem noBs_ok : ∀ xs : List PyData, noBs xs = true → okAll xs = true
  | [], _ => rfl
  | x :: r, h => by
    have h : noB x = true ∧ noBs r = true := by simpa [noBs] using h
    show (okD x && okAll r) = true
    rw [noB_ok x h.1, noBs_ok r h.2]; rfl
end
mutual
theorem eqv_eq : ∀ (a b : PyData), noB a = true → noB b = true → PyData.eqv a b = true → a = b
  | .none, b, _, hb, h => by cases b <;> first | rfl | (simp [PyData.eqv] at h; done) | cases hb
  | .int i, b, _, hb, h => by cases b <;> first | (simp [PyData.eqv] at h; done) | (cases hb; done) | skip; simp [PyData.eqv] at h; rw [h]
  | .bool _, _, ha, _, _ => by cases ha
  | .str x, b, _, hb, h => by cases b <;> first | (simp [PyData.eqv] at h; done) | (cases hb; done) | skip; simp [PyData.eqv] at h; rw [h]
  | .list xs, b, ha, hb, h => by
    cases b <;> first | (simp [PyData.eqv] at h; done) | (cases hb; done) | skip
    rename_i ys
    rw [eqvs_eq xs ys ha hb (by simpa [PyData.eqv] using h)]
  | .tuple xs, b, ha, hb, h => by
    cases b <;> first | (simp [PyData.eqv] at h; done) | (cases hb; done) | skip
    rename_i ys
    rw [eqvs_eq xs ys ha hb (by simpa [PyData.eqv] using h)]
  | .dict _, _, ha, _, _ => by cases ha
theorem eqvs_eq : ∀ (xs ys : List PyData), noBs xs = true → noBs ys = true → PyData.eqvAll xs ys = true → xs = ys
  | [], [], _, _, _ => rfl
  | [], _ :: _, _, _, h => by simp [PyData.eqvAll] at h
  | _ :: _, [], _, _, h => by simp [PyData.eqvAll] at h
  | x :: xs, y :: ys, ha, hb, h => by
    have ha : noB x = true ∧ noBs xs = true := by simpa [noBs] using ha
    have hb : noB y = true ∧ noBs ys = true := by simpa [noBs] using hb
    have h : PyData.eqv x y = true ∧ PyData.eqvAll xs ys = true := by simpa [PyData.eqvAll] using h
    rw [eqv_eq x y ha.1 hb.1 h.1, eqvs_eq xs ys ha.2 hb.2 h.2]
end
theorem eqv_ne {a b : PyData} (ha : noB a = true) (hb : noB b = true) (h : a ≠ b) : PyData.eqv a b = false := by
  cases e : PyData.eqv a b with
  | false => rfl
  | true => exact absurd (eqv_eq a b ha hb e) h
theorem eq_ne {a b : PyData} (ha : noB a = true) (hb : noB b = true) (da : depD a ≤ 60) (db : depD b ≤ 60) (h : a ≠ b) : dEq a b = some (.bool false) := by rw [eq_ok (noB_ok a ha) da (noB_ok b hb) db, eqv_ne ha hb h]
theorem noBs_map {α : Type} {enc : α → PyData} : ∀ {xs : List α}, (∀ x ∈ xs, noB (enc x) = true) → noBs (xs.map enc) = true
  | [], _ => rfl
  | x :: r, h => by
    show (noB (enc x) && noBs (r.map enc)) = true
    rw [h x List.mem_cons_self, noBs_map fun y hy => h y (List.mem_cons_of_mem _ hy)]; rfl
end WD
set_option Elab.async false
set_option linter.all false
set_option maxRecDepth 100000
set_option maxHeartbeats 400000
namespace WD
open PySem L2 DL
def kAt (bs : List Bool) (k : Nat) : Bool := bs.getD k false
def keepsK (rs : List Rl) (ks : List Nat) (s : St) : Bool := ks.all fun k => kAt (rulesK s rs) k
def ExtP (ms ms' : Ps) : Prop := ms.length = ms'.length ∧ ∀ (i : Nat) x, ms[i]? = some (some x) → ms'[i]? = some (some x)
theorem ExtP.refl (ms : Ps) : ExtP ms ms := ⟨rfl, fun _ _ h => h⟩
def le3 (a b : S3) : Prop := a = .opn ∨ a = b
def b3 (b : Bool) : S3 := if b = true then .kpt else .brk
inductive Tr where
  | brk (k : Int)
  | part (n : Int) (a b : Tr)
def Tr.enc : Tr → PyData
  | .brk k => .tuple [.str "broken", .int k]
  | .part n a b => .tuple [.str "part", .int n, a.enc, b.enc]
def Tr.leaves : Tr → List Int
  | .brk k => [k]
  | .part _ a b => a.leaves ++ b.leaves
def Tr.deep : Tr → Nat
  | .brk _ => 0
  | .part _ a b => max a.deep b.deep + 1
@[simp] theorem np_Tr {t : Tr} : noPot t.enc = true := by cases t <;> rfl
@[simp] theorem ok_part : PyData.strOk "part" = true := by decide +kernel
@[simp] theorem ne_part : ((Str.ofString "part" : Str) = Str.ofString "broken") = False := eq_false (by decide +kernel)
@[simp] theorem ok_clash : PyData.strOk "clash" = true := by decide +kernel
@[simp] theorem ne_ck : ((Str.ofString "clash" : Str) = Str.ofString "kept") = False := eq_false (by decide +kernel)
@[simp] theorem ne_kc : ((Str.ofString "kept" : Str) = Str.ofString "clash") = False := eq_false (by decide +kernel)
def endR (rs : List Rl) (ks : List Int) (ms : Ps) (k : Int) : Bool := decide (k ∈ ks ∧ 0 ≤ k ∧ k < rs.length) && decide (dAt (rulesS ms rs) k.toNat = .brk)
def trR (rs : List Rl) (ks : List Int) : Ps → Tr → Bool
  | ms, .brk k => endR rs ks ms k
  | ms, .part n a b => decide (1 ≤ n ∧ n ≤ ms.length) && (decide (ms.getD (n.toNat - 1) none = none) && (trR rs ks (ms.set (n.toNat - 1) (some 0)) a && trR rs ks (ms.set (n.toNat - 1) (some 1)) b))
def setsFrom : Nat → St → List St
  | 0, b => [b]
  | m + 1, b => setsFrom m (b ++ [0]) ++ setsFrom m (b ++ [1])
def openP (m : Nat) (b : St) : Ps := sP b ++ List.replicate m none
def firstB (rs : List Rl) (ks : List Nat) (ms : Ps) : Option Nat := ks.find? fun k => decide (dAt (rulesS ms rs) k = .brk)
def kF (rs : List Rl) (ks : List Nat) : Nat → St → St ⊕ Tr
  | m, b => match firstB rs ks (openP m b) with
    | some k => .inr (.brk (k : Int))
    | none => match m with
      | 0 => .inl b
      | m + 1 => match kF rs ks m (b ++ [0]) with
        | .inl s => .inl s
        | .inr x => match kF rs ks m (b ++ [1]) with
          | .inl s => .inl s
          | .inr y => .inr (.part (b.length + 1 : Nat) x y)
def kStep (len : Nat) (x y : St ⊕ Tr) : St ⊕ Tr := match x with
  | .inl s => .inl s
  | .inr t => match y with
    | .inl s => .inl s
    | .inr u => .inr (.part (len + 1 : Nat) t u)
def nIs (ks : List Nat) : List Int := ks.map fun (k : Nat) => (k : Int)
def encI (a : List Int) : PyData := .tuple (a.map PyData.int)
@[simp] theorem np_encI {a : List Int} : noPot (encI a) = true := rfl
def ltI : List Int → List Int → Bool
  | [], ys => decide (0 < ys.length)
  | _ :: _, [] => false
  | x :: xs, y :: ys => if x = y then ltI xs ys else decide (x < y)
theorem ok_encI {a : List Int} : okD (encI a) = true := okAll_map fun _ _ => rfl
theorem dep_encI {a : List Int} : depD (encI a) ≤ 1 := Nat.succ_le_succ (dep_map fun _ _ => Nat.le_refl _)
theorem cmpAll_ints {k : Nat} : ∀ a b : List Int, DS.cmpAll .Lt (DS.cmpD .Lt k) (a.map PyData.int) (b.map PyData.int) = some (ltI a b)
  | [], b => by
    show some (DS.szB .Lt 0 (b.map PyData.int).length) = _
    rw [List.length_map]; rfl
  | x :: xs, [] => by
    show some (DS.szB .Lt _ 0) = _
    unfold DS.szB ltI
    simp
  | x :: xs, y :: ys => by
    show (if PyData.eqv (.int x) (.int y) = true then DS.cmpAll .Lt (DS.cmpD .Lt k) (xs.map PyData.int) (ys.map PyData.int) else DS.cmpD .Lt k (.int x) (.int y)) = _
    unfold ltI
    by_cases h : x = y
    · rw [if_pos (by simp [PyData.eqv, h]), if_pos h, cmpAll_ints xs ys]
    · rw [if_neg (by simpa [PyData.eqv] using h), if_neg h]
      cases k <;> rfl
theorem cmp_ints {a b : List Int} {k : Nat} : DS.cmpD .Lt (k + 1) (encI a) (encI b) = some (ltI a b) := by
  show (if SeqAt.shaped (encI a) = true ∧ SeqAt.shaped (encI b) = true then DS.cmpAll .Lt (DS.cmpD .Lt k) (a.map PyData.int) (b.map PyData.int) else none) = _
  rw [if_pos ⟨shaped_ok ok_encI (Nat.le_trans dep_encI (by decide)), shaped_ok ok_encI (Nat.le_trans dep_encI (by decide))⟩]
  exact cmpAll_ints a b
def bestL : List Int → List (List Int) → List Int
  | b, [] => b
  | b, d :: r => bestL (if ltI d b = true then d else b) r
theorem noB_encI {a : List Int} : noB (encI a) = true := by
  show noBs (a.map PyData.int) = true
  induction a with
  | nil => rfl
  | cons x r ih => show (true && noBs (r.map PyData.int)) = true; rw [ih]; rfl
theorem encI_inj {a b : List Int} (h : encI a = encI b) : a = b := by
  unfold encI at h
  injection h with h
  induction a generalizing b with
  | nil => cases b with
    | nil => rfl
    | cons y s => cases h
  | cons x r ih => cases b with
    | nil => cases h
    | cons y s =>
      simp at h
      obtain ⟨rfl, h⟩ := h
      rw [ih h]
end WD
set_option Elab.async false
set_option linter.all false
set_option maxRecDepth 100000
set_option maxHeartbeats 400000
namespace WD
open PySem L2 DL
theorem any_ints {k : Int} {ns : List Int} : ((ns.map PyData.int).any fun e => PyData.eqv e (.int k)) = decide (k ∈ ns) := by
  rw [List.any_map, Bool.eq_iff_iff, List.any_eq_true, decide_eq_true_iff]
  refine ⟨fun ⟨j, hj, e⟩ => ?_, fun h => ⟨k, h, ?_⟩⟩
  · simp only [Function.comp, PyData.eqv] at e
    have : j = k := by simpa using e
    exact this ▸ hj
  · simp [Function.comp, PyData.eqv]
theorem all_ints {ns : List Int} : (ns.map PyData.int).all flatD = true := by rw [List.all_map]; exact List.all_eq_true.mpr fun _ _ => rfl
theorem in_ints {b : Bool} {k : Int} {ns : List Int} : dIn b (.int k) (.list (ns.map PyData.int)) = some (.bool (if b = true then !decide (k ∈ ns) else decide (k ∈ ns))) := by
  unfold dIn
  simp only [s_itL]
  rw [if_pos ⟨rfl, all_ints⟩, any_ints]
theorem in_intsT {b : Bool} {k : Int} {ns : List Int} : dIn b (.int k) (.tuple (ns.map PyData.int)) = some (.bool (if b = true then !decide (k ∈ ns) else decide (k ∈ ns))) := by
  unfold dIn
  simp only [s_itT]
  rw [if_pos ⟨rfl, all_ints⟩, any_ints]
theorem all_tt {α : Type} {l : List α} : (l.all fun _ => true) = true := List.all_eq_true.mpr fun _ _ => rfl
theorem s_dvd {i j : Int} (h : 0 < j) (h2 : j < 1073741824) : dDiv (.int i) (.int j) = some (.int (i / j)) := by
  show (if (decide (0 < j) && decide (j < 1073741824)) = true then some (PyData.int (i / j)) else none) = _
  rw [if_pos (by rw [decide_eq_true h, decide_eq_true h2]; rfl)]
theorem pw10 {j : Int} (h0 : 0 ≤ j) (h1 : j ≤ 100) : dPow (.int 10) (.int j) = some (.int (10 ^ j.toNat)) := s_pow h0 (by omega) (by decide)
theorem w_row_ofF {c : Int} {Q : List PyData → Prop} (q : ∀ fs : List Int, fs.length ≤ 60 → Q (fs.map PyData.int)) : g__law_row_ofF [.int c] Q := by
  refine ⟨rfl, ?_⟩
  simp -implicitDefEqProofs [b__law_row_ofF, pw10]
  generalize (if c < 0 then -c else c) = a
  by_cases h : 1000000000000000000 ≤ a
  · simp -implicitDefEqProofs [h, r1_small (show (-100000 : Int) ≤ 60 by omega) (by omega)]
    refine forGo_range (fun i ρ => ∃ (fs : List Int) (b : Int) (x y : Option Cell), ρ = [some (.dat (.int c)), some (.own (fs.map PyData.int)), some (.dat (.int b)), x, y] ∧ fs.length ≤ i) ⟨[], a, none, none, rfl, Nat.le_refl _⟩ ?_ ?_
    · rintro i ρ hi ⟨fs, b, x, y, rfl, hl⟩ K hK
      simp -implicitDefEqProofs
      by_cases hb : 0 < b
      · simp -implicitDefEqProofs [hb, pw10, s_dvd]
        refine ⟨slt (by omega), hK _ ⟨fs ++ [b % 1000000], b / 1000000, some (.dat (.int i)), y, by simp, by simp; omega⟩⟩
      · simp -implicitDefEqProofs [hb]
        exact hK _ ⟨fs, b, _, y, rfl, by omega⟩
    · rintro ρ ⟨fs, b, x, y, rfl, hl⟩
      simp -implicitDefEqProofs
      exact q fs hl
  · simp -implicitDefEqProofs [h, r1_small (show (-100000 : Int) ≤ 9 by omega) (by omega)]
    refine forGo_range (fun i ρ => ∃ (fs : List Int) (b : Int) (x y : Option Cell), ρ = [some (.dat (.int c)), some (.own (fs.map PyData.int)), some (.dat (.int b)), x, y] ∧ fs.length ≤ i) ⟨[], a, none, none, rfl, Nat.le_refl _⟩ ?_ ?_
    · rintro i ρ hi ⟨fs, b, x, y, rfl, hl⟩ K hK
      have m1 : dMul (.int c) (.int 48271) = some (.int (c * 48271)) := mul_s (.inr (by decide))
      have m2 : dMul (.int 977) (.int (i : Int)) = some (.int (977 * (i : Int))) := mul_s (.inl (by decide))
      have m4 : dMul (.int 40692) (.int ((i : Int) + 3)) = some (.int (40692 * ((i : Int) + 3))) := mul_s (.inl (by decide))
      have m5 : ∀ z : Int, dMul (.int z) (.int 69621) = some (.int (z * 69621)) := fun z => mul_s (.inr (by decide))
      simp -implicitDefEqProofs [pw10, s_dvd, m1, m2, m4, m5]
      have o0 := Int.emod_nonneg (c * 48271 + 977 * (i : Int) + 1) (show (2147483647 : Int) ≠ 0 by decide)
      have o1 := Int.emod_lt_of_pos (c * 48271 + 977 * (i : Int) + 1) (show (0 : Int) < 2147483647 by decide)
      generalize (c * 48271 + 977 * (i : Int) + 1) % 2147483647 = one at o0 o1 ⊢
      have m3 : dMul (.int one) (.int one) = some (.int (one * one)) := mul_s (.inl (by omega))
      simp -implicitDefEqProofs [m3, m5, m4, pw10, s_dvd]
      refine ⟨slt (by omega), hK _ ⟨fs ++ [(one * one % 2147483647 + 40692 * ((i : Int) + 3)) * 69621 % 2147483629 / 8 % 1000000], b, some (.dat (.int i)), some (.dat (.int (one * one % 2147483647))), by simp, by simp; omega⟩⟩
    · rintro ρ ⟨fs, b, x, y, rfl, hl⟩
      simp -implicitDefEqProofs
      exact q fs (by omega)
theorem pot_holds : ∀ ns : List Int, ns.length ≤ 63 → b__law_jar_1 ⟨b__law_jar_2 jarE, fun _ => False, fun _ => False, fun _ => False, fun _ => False⟩ (some (.dat (.list (ns.map PyData.int))) :: List.replicate 2 none) := by
  intro ns h
  simp -implicitDefEqProofs [b__law_jar_1, b__law_jar_2]
  rw [show cutD (ns.map PyData.int) none (some 63) = ns.map PyData.int from by
    unfold cutD
    have e1 : HT.sIx (ns.map PyData.int).length 0 none = 0 := rfl
    have e2 : HT.sIx (ns.map PyData.int).length (ns.map PyData.int).length (some 63) = ns.length := by
      rw [List.length_map]
      exact (HT.sIx_nat ns.length ns.length 63).trans (by omega)
    rw [e1, e2, List.drop_zero, Nat.sub_zero, List.take_of_length_le (by simp)]]
  refine forGo_map (enc := PyData.int) (fun pre ρ => ∃ (fs : List Int) (x : Option Cell), ρ = [some (.dat (.list (ns.map PyData.int))), some (.own (fs.map PyData.int)), x] ∧ fs.length ≤ 60 * pre.length) ⟨[], none, rfl, Nat.le_refl _⟩ ?_ ?_
  · rintro pre c post ρ e ⟨fs, x, rfl, hl⟩ K hK
    have hp : pre.length ≤ 63 := by have := congrArg List.length e; simp at this; omega
    simp -implicitDefEqProofs
    refine w_row_ofF fun gs hg => ?_
    simp -implicitDefEqProofs
    exact ⟨sl (by omega), hK _ ⟨fs ++ gs, _, by simp; rfl, by simp; omega⟩⟩
  · rintro ρ ⟨fs, x, rfl, _⟩
    exact ⟨fs, rfl⟩
theorem zip_self : ∀ ds : List PyData, zipD ds ds = ds.map fun d => .tuple [d, d]
  | [] => rfl
  | d :: r => by show (.tuple [d, d] : PyData) :: zipD r r = _; rw [zip_self r]; rfl
theorem e_same : ∀ (fu : Nat) (d : PyData), okD d = true → depD d < fu → ∀ Q : PyData → Prop, g__law_same fu [d, d] Q = Q (.bool true)
  | 0, _, _, h, _ => absurd h (Nat.not_lt_zero _)
  | fu + 1, d, ok, h, Q => by
    have key : ∀ ds : List PyData, okAll ds = true → depAllD ds < fu → ∀ (ρ0 : DL.Env) (Q : List PyData → Prop), ρ0.length = 4 → lcGo (gT 2 (gsCons (gN 2) (gsCons (gN 3) gsNil))) (fun _ => ret true) (eCall (gP (g__law_same fu)) (aCons (eVar 2) (aCons (eVar 3) aNil))) ρ0 (zipD ds ds) Q = Q (ds.map (PyData.bool ∘ fun _ => true)) := by
      intro ds ho hd ρ0 Q hl
      rw [zip_self]
      refine lcGo_map (f := PyData.bool ∘ fun _ => true) fun x hx => ⟨rfl, fun K => ?_⟩
      obtain ⟨a, b, c, e, rfl⟩ : ∃ a b c e, ρ0 = [a, b, c, e] := by
        match ρ0, hl with
        | [a, b, c, e], _ => exact ⟨a, b, c, e, rfl⟩
      have hx1 := okAll_mem ho hx
      simp -implicitDefEqProofs [np_ok hx1]
      exact Iff.of_eq (e_same fu x hx1 (Nat.lt_of_le_of_lt (depAll_mem hx) hd) K)
    cases d with
    | none => simp -implicitDefEqProofs [g__law_same, b__law_same, tyD, isiA]
    | bool b => simp -implicitDefEqProofs [g__law_same, b__law_same, tyD, isiA]
    | int i => simp -implicitDefEqProofs [g__law_same, b__law_same, tyD, isiA]
    | str x =>
      have : PyData.strOk x = true := ok
      simp -implicitDefEqProofs [g__law_same, b__law_same, tyD, isiA, this]
    | list ds =>
      have hd : depAllD ds < fu := by have : depAllD ds + 1 < fu + 1 := h; omega
      simp -implicitDefEqProofs [g__law_same, b__law_same, tyD, isiA, key ds ok hd, all_tt]
    | tuple ds =>
      have hd : depAllD ds < fu := by have : depAllD ds + 1 < fu + 1 := h; omega
      simp -implicitDefEqProofs [g__law_same, b__law_same, tyD, isiA, key ds ok hd, all_tt]
    | dict _ => cases ok
theorem ltI_irr : ∀ l : List Int, ltI l l = false
  | [] => rfl
  | x :: r => by unfold ltI; rw [if_pos rfl]; exact ltI_irr r
theorem ltI_asym : ∀ {a b : List Int}, ltI a b = true → ltI b a = false
  | [], [], h => by cases h
  | [], _ :: _, _ => rfl
  | _ :: _, [], h => by cases h
  | x :: xs, y :: ys, h => by
    unfold ltI at h ⊢
    by_cases e : x = y
    · rw [if_pos e] at h
      rw [if_pos e.symm]
      exact ltI_asym h
    · rw [if_neg e] at h
      rw [if_neg fun z => e z.symm]
      have := of_decide_eq_true h
      exact decide_eq_false (by omega)
theorem ltI_ntrans : ∀ {a b c : List Int}, ltI a b = false → ltI b c = false → ltI a c = false
  | [], [], [], _, _ => rfl
  | [], [], _ :: _, _, h => by cases h
  | [], _ :: _, _, h, _ => by cases h
  | _ :: _, _, [], _, _ => rfl
  | _ :: _, [], _ :: _, _, h => by cases h
  | x :: xs, y :: ys, z :: zs, h1, h2 => by
    unfold ltI at h1 h2 ⊢
    by_cases e1 : x = y
    · rw [if_pos e1] at h1
      subst e1
      by_cases e2 : x = z
      · rw [if_pos e2] at h2 ⊢
        exact ltI_ntrans h1 h2
      · rw [if_neg e2] at h2 ⊢
        exact h2
    · rw [if_neg e1] at h1
      have h1 := of_decide_eq_false h1
      by_cases e2 : y = z
      · subst e2
        rw [if_neg e1]
        exact decide_eq_false h1
      · rw [if_neg e2] at h2
        have h2 := of_decide_eq_false h2
        rw [if_neg (by omega)]
        exact decide_eq_false (by omega)
theorem ltI_tot : ∀ {a b : List Int}, ltI a b = false → ltI b a = false → a = b
  | [], [], _, _ => rfl
  | [], _ :: _, h, _ => by cases h
  | _ :: _, [], _, h => by cases h
  | x :: xs, y :: ys, h1, h2 => by
    unfold ltI at h1 h2
    by_cases e : x = y
    · rw [if_pos e] at h1
      rw [if_pos e.symm] at h2
      rw [e, ltI_tot h1 h2]
    · rw [if_neg e] at h1
      rw [if_neg fun z => e z.symm] at h2
      have h1 := of_decide_eq_false h1
      have h2 := of_decide_eq_false h2
      omega
theorem ltI_trs {a b c : List Int} (h1 : ltI a b = true) (h2 : ltI b c = true) : ltI a c = true := by
  cases h : ltI a c with
  | true => rfl
  | false =>
    have := ltI_ntrans h (ltI_asym h2)
    rw [h1] at this; cases this
theorem ltI_ntr {a b c : List Int} (h : ltI a c = true) : ltI a b = true ∨ ltI b c = true := by
  cases h1 : ltI a b with
  | true => exact .inl rfl
  | false =>
    cases h2 : ltI b c with
    | true => exact .inr rfl
    | false => have := ltI_ntrans h1 h2; rw [h] at this; cases this
def rnk {α : Type} (lt : α → α → Bool) (xs : List α) (x : α) : Nat := (xs.filter fun y => lt y x).length
theorem cnt_le {α : Type} {p q : α → Bool} : ∀ {xs : List α}, (∀ x ∈ xs, p x = true → q x = true) → (xs.filter p).length ≤ (xs.filter q).length
  | [], _ => Nat.le_refl _
  | x :: r, h => by
    have ih := cnt_le (xs := r) fun y hy => h y (List.mem_cons_of_mem _ hy)
    have hx := h x List.mem_cons_self
    rw [List.filter_cons, List.filter_cons]
    cases hp : p x <;> cases hq : q x <;> simp <;> first | omega | (rw [hx hp] at hq; cases hq)
theorem cnt_lt {α : Type} {p q : α → Bool} : ∀ {xs : List α}, (∀ x ∈ xs, p x = true → q x = true) → (∃ x ∈ xs, p x = false ∧ q x = true) → (xs.filter p).length < (xs.filter q).length
  | [], _, ⟨x, hx, _⟩ => by cases hx
  | x :: r, h, ⟨y, hy, hp, hq⟩ => by
    rw [List.filter_cons, List.filter_cons]
    rcases List.mem_cons.mp hy with rfl | hy
    · have ih := cnt_le (xs := r) fun z hz => h z (List.mem_cons_of_mem _ hz)
      rw [hp, hq]; simp; omega
    · have ih := cnt_lt (xs := r) (fun z hz => h z (List.mem_cons_of_mem _ hz)) ⟨y, hy, hp, hq⟩
      have hx := h x List.mem_cons_self
      cases hp : p x <;> cases hq : q x <;> simp <;> first | omega | (rw [hx hp] at hq; cases hq)
theorem rnk_lt {α : Type} {lt : α → α → Bool} {xs : List α} (irr : ∀ a, lt a a = false) (trs : ∀ a b c, lt a b = true → lt b c = true → lt a c = true) (ntr : ∀ a b c, lt a c = true → lt a b = true ∨ lt b c = true) {x y : α} (hx : x ∈ xs) : decide (rnk lt xs x < rnk lt xs y) = lt x y := by
  cases h : lt x y with
  | true => exact decide_eq_true (cnt_lt (fun z _ hz => trs z x y hz h) ⟨x, hx, irr x, h⟩)
  | false =>
    refine decide_eq_false (Nat.not_lt.mpr (cnt_le fun z _ hz => ?_))
    rcases ntr z x y hz with h1 | h1
    · exact h1
    · rw [h] at h1; cases h1
theorem sortN_of {α : Type} [Inhabited α] {enc : α → PyData} {lt : α → α → Bool} {xs : List α} {Q : List PyData → Prop} (irr : ∀ a, lt a a = false) (trs : ∀ a b c, lt a b = true → lt b c = true → lt a c = true) (ntr : ∀ a b c, lt a c = true → lt a b = true ∨ lt b c = true)
    (hn : ∀ x ∈ xs, noList (enc x) = true ∧ TW.tt (enc x) = true) (hl : xs.length ≤ 1000) (hc : ∀ x ∈ xs, ∀ y ∈ xs, DS.cmpD .Lt 3 (enc x) (enc y) = some (lt x y)) (q : ∀ ys : List α, ys.Perm xs → ys.Pairwise (fun a b => lt b a = false) → Q (ys.map enc)) : sortNK [.list (xs.map enc)] Q := by
  have hgd : ∀ k, k < xs.length → xs[k]? = some (xs.getD k default) := fun k hk => by rw [List.getD_eq_getElem?_getD, List.getElem?_eq_getElem hk]; rfl
  have hmem : ∀ k, k < xs.length → xs.getD k default ∈ xs := fun k hk => List.mem_of_getElem? (hgd k hk)
  refine ⟨xs.map enc, fun k => rnk lt xs (xs.getD k default), rfl, ⟨?_, ?_, by rw [List.length_map]; exact hl⟩, fun i j x y hx hy => ?_, fun p hp hs => ?_⟩
  · have : ∀ l : List α, (∀ x ∈ l, noList (enc x) = true) → noListAll (l.map enc) = true := fun l => by
      induction l with
      | nil => intro _; rfl
      | cons a r ih => intro h; rw [List.map_cons]; show (noList (enc a) && noListAll (r.map enc)) = true; rw [h a List.mem_cons_self, ih fun x hx => h x (List.mem_cons_of_mem _ hx)]; rfl
    exact this xs fun x hx => (hn x hx).1
  · rw [List.all_map, List.all_eq_true]
    exact fun x hx => (hn x hx).2
  · rw [List.getElem?_map] at hx hy
    have hi : i < xs.length := by
      refine Classical.byContradiction fun z => ?_
      rw [List.getElem?_eq_none (by omega)] at hx; cases hx
    have hj : j < xs.length := by
      refine Classical.byContradiction fun z => ?_
      rw [List.getElem?_eq_none (by omega)] at hy; cases hy
    rw [hgd i hi] at hx
    rw [hgd j hj] at hy
    cases hx
    cases hy
    rw [rnk_lt irr trs ntr (hmem i hi)]
    exact hc _ (hmem i hi) _ (hmem j hj)
  · rw [List.length_map] at hp
    have hb : ∀ k ∈ p, k < xs.length := fun k hk => List.mem_range.mp (hp.mem_iff.mp hk)
    have e : (p.map fun k => (xs.map enc).getD k .none) = (p.map fun k => xs.getD k default).map enc := by
      rw [List.map_map]
      refine List.map_congr_left fun k hk => ?_
      show (xs.map enc).getD k .none = enc (xs.getD k default)
      rw [List.getD_eq_getElem?_getD, List.getElem?_map, hgd k (hb k hk)]; rfl
    rw [e]
    refine q _ ?_ ?_
    · have h1 := hp.map fun k => xs.getD k default
      have h2 : (List.range xs.length).map (fun k => xs.getD k default) = xs := by
        apply List.ext_getElem?
        intro i
        by_cases hi : i < xs.length
        · rw [List.getElem?_map, List.getElem?_range hi, hgd i hi]; rfl
        · rw [List.getElem?_eq_none (by simp; omega), List.getElem?_eq_none (by omega)]
      rwa [h2] at h1
    · rw [List.pairwise_map]
      refine List.Pairwise.imp_of_mem (fun {a b} ha hb' hab => ?_) hs
      rw [← rnk_lt irr trs ntr (hmem b (hb b hb'))]
      have hab : rnk lt xs (xs.getD a default) ≤ rnk lt xs (xs.getD b default) := hab
      exact decide_eq_false (by omega)
structure ClG (c : List Int) : Prop where
  up : c.Pairwise (· < ·)
  len : c.length ≤ 4
  ok : ∀ w ∈ c, w ≠ 0 ∧ w.natAbs ≤ 8
  one : ∀ w ∈ c, -w ∉ c
theorem pick_i {ns : List Int} {r : Int} (r0 : 0 ≤ r) (r1 : r < ns.length) : ∃ v ∈ ns, atI (ns.map PyData.int) r = some (.int v) := by
  have h : r.toNat < ns.length := by omega
  refine ⟨ns[r.toNat], List.getElem_mem h, ?_⟩
  rw [atI_nat' r0 (by rw [List.length_map]; exact h), List.getElem?_map, List.getElem?_eq_getElem h]; rfl
theorem w_tuple {n : Int} {Q : PyData → Prop} (n0 : 1 ≤ n) (n8 : n ≤ 8) (q : ∀ c, ClG c → Q (encI c)) : g__law_tuple [pot, .int n] Q := by
  refine ⟨rfl, ?_⟩
  simp -implicitDefEqProofs [b__law_tuple]
  intro mo m0 m1
  obtain ⟨most, hm, hat⟩ := pick_i (ns := [1, 2, 2, 3, 1, 3, 4, 0]) m0 (by simpa using m1)
  have hmost : 0 ≤ most ∧ most ≤ 4 := by
    simp only [List.mem_cons, List.mem_nil_iff, or_false] at hm
    omega
  simp -implicitDefEqProofs at hat ⊢
  rw [hat]
  simp -implicitDefEqProofs [r1_small (show (-100000 : Int) ≤ most by omega) (by omega)]
  refine forGo_range (fun i ρ => ∃ ws x y, ρ = [some (.dat pot), some (.dat (.int n)), some (.own (ws.map PyData.int)), x, y] ∧ ws.length ≤ i ∧ (∀ w ∈ ws, w ≠ 0 ∧ w.natAbs ≤ 8) ∧ (∀ w ∈ ws, -w ∉ ws) ∧ ws.Nodup) ⟨[], none, none, rfl, Nat.le_refl _, fun w hw => (by cases hw), fun w hw => (by cases hw), List.nodup_nil⟩ ?_ ?_
  · rintro i ρ hi ⟨ws, x, y, rfl, hl, hw, ho, hn⟩ K hK
    simp -implicitDefEqProofs
    refine ⟨by omega, by omega, fun r r0 r1 => ?_⟩
    have no : K [some (.dat pot), some (.dat (.int n)), some (.own (ws.map PyData.int)), some (.dat (.int i)), some (.dat (.int (1 + r)))] := hK _ ⟨ws, _, _, rfl, by omega, hw, ho, hn⟩
    simp -implicitDefEqProofs [in_ints]
    by_cases h1 : (1 + r) ∈ ws
    · simp -implicitDefEqProofs [h1]; exact no
    by_cases h2 : -(1 + r) ∈ ws
    · simp -implicitDefEqProofs [h1, h2]; exact no
    have key : ∀ u : Int, (u = 1 + r ∨ u = -(1 + r)) → ws.length < sizeLine ∧ K [some (.dat pot), some (.dat (.int n)), some (.own (ws.map PyData.int ++ [.int u])), some (.dat (.int i)), some (.dat (.int (1 + r)))] := fun u hu => by
      have hu1 : u ∉ ws ∧ -u ∉ ws := by
        rcases hu with rfl | rfl
        · exact ⟨h1, h2⟩
        · exact ⟨h2, by rw [Int.neg_neg]; exact h1⟩
      refine ⟨slt (by omega), hK _ ⟨ws ++ [u], some (.dat (.int i)), some (.dat (.int (1 + r))), by simp, by simp; omega, fun w h => ?_, fun w h => ?_, ?_⟩⟩
      · rcases List.mem_append.mp h with h | h
        · exact hw w h
        · simp at h; subst h; omega
      · rw [List.mem_append, not_or, List.mem_singleton]
        rcases List.mem_append.mp h with h | h
        · refine ⟨ho w h, fun e => hu1.2 ?_⟩
          rw [← e, Int.neg_neg]; exact h
        · simp at h; subst h
          exact ⟨hu1.2, by omega⟩
      · rw [List.nodup_append]
        exact ⟨hn, by simp, fun a ha b hb e => by simp at hb; subst hb; subst e; exact hu1.1 ha⟩
    have k1 := key (1 + r) (.inl rfl)
    have k2 := key (-(1 + r)) (.inr rfl)
    simp -implicitDefEqProofs [h1, h2]
    intro v v0 v1
    have hv : v = 0 ∨ v = 1 := by omega
    rcases hv with rfl | rfl
    · simp -implicitDefEqProofs; exact k1
    · simp -implicitDefEqProofs; exact k2
  · rintro ρ ⟨ws, x, y, rfl, hl, hw, ho, hn⟩
    have hp := isort_perm ws
    have hs := isort_sorted ws
    have hn2 : (isort ws).Nodup := hp.nodup_iff.mpr hn
    have hlen : (isort ws).length ≤ sizeLine := sl (by rw [hp.length_eq]; omega)
    simp -implicitDefEqProofs [hlen]
    refine q (isort ws) ⟨?_, by rw [hp.length_eq]; omega, fun w h => hw w (hp.mem_iff.mp h), fun w h z => ho w (hp.mem_iff.mp h) (hp.mem_iff.mp z)⟩
    exact (hs.and hn2).imp fun ⟨a, b⟩ => by omega
def PsG (ps : List IT.Pe) : Prop := ps.length ≤ 24 ∧ ∀ p ∈ ps, ClG p.1 ∧ 0 < p.2
theorem w_pairsB {n m p1 p2 p3 : Int} {Q : List PyData → Prop} (n0 : 1 ≤ n) (n8 : n ≤ 8) (m0 : 0 ≤ m) (m24 : m ≤ 24) (h1 : 0 < p1) (h2 : 0 < p2) (h3 : 0 < p3) (q : ∀ ps, PsG ps → Q (ps.map IT.encE)) :
    r1K [PyData.int m] fun ds => forGo (gN 5) (sSeq (sAsg (eCall g__law_tuple (aCons (eVar 0) (aCons (eVar 1) aNil))) (gN 6)) (sApp 4 (eTup (aCons (eVar 6) (aCons (eOp dMul (eOp dAdd (eC (PyData.int 1)) (eCall takeP (aCons (eVar 0) (aCons (eC (PyData.int 9)) aNil)))) (eOp dIx (eVar 3) (eCall takeP (aCons (eVar 0) (aCons (eC (PyData.int 3)) aNil))))) aNil)))))
      { nx := sRetO 4 { nx := fun x => False, rt := fun x => False, bk := fun x => False, ct := fun x => False, ro := Q }, rt := fun x => False, bk := fun x => False, ct := fun x => False, ro := Q } ds
      [some (Cell.dat pot), some (Cell.dat (PyData.int n)), some (Cell.dat (PyData.int m)), some (Cell.dat (PyData.list [PyData.int p1, PyData.int p2, PyData.int p3])), some (Cell.own []), none, none] := by
  rw [r1_small (show (-100000 : Int) ≤ m by omega) (by omega)]
  refine forGo_range (fun i ρ => ∃ ps x y, ρ = [some (.dat pot), some (.dat (.int n)), some (.dat (.int m)), some (.dat (.list [.int p1, .int p2, .int p3])), some (.own (ps.map IT.encE)), x, y] ∧ ps.length ≤ i ∧ ∀ p ∈ ps, ClG p.1 ∧ 0 < p.2) ⟨[], none, none, rfl, Nat.le_refl _, fun p hp => (by cases hp)⟩ ?_ ?_
  · rintro i ρ hi ⟨ps, x, y, rfl, hl, hp⟩ K hK
    simp -implicitDefEqProofs
    refine w_tuple n0 n8 fun c hc => ?_
    simp -implicitDefEqProofs [encI]
    intro r r0 r1 t t0 t1
    have key : ∀ p : Int, 0 < p → ps.length < sizeLine ∧ K [some (.dat pot), some (.dat (.int n)), some (.dat (.int m)), some (.dat (.list [.int p1, .int p2, .int p3])), some (.own (ps.map IT.encE ++ [.tuple [encI c, .int ((1 + r) * p)]])), some (.dat (.int i)), some (.dat (encI c))] := fun p h0 =>
      ⟨slt (by omega), hK _ ⟨ps ++ [(c, (1 + r) * p)], some (.dat (.int i)), some (.dat (encI c)), by rw [List.map_append]; rfl, by simp; omega, fun e he => by
        rcases List.mem_append.mp he with h | h
        · exact hp e h
        · simp at h; subst h; exact ⟨hc, Int.mul_pos (by omega) h0⟩⟩⟩
    have m1 : ∀ p : Int, dMul (.int (1 + r)) (.int p) = some (.int ((1 + r) * p)) := fun p => mul_s (.inl (by omega))
    have ht : t = 0 ∨ t = 1 ∨ t = 2 := by omega
    rcases ht with rfl | rfl | rfl
    · have := key p1 h1
      simp -implicitDefEqProofs [m1]; exact this
    · have := key p2 h2
      simp -implicitDefEqProofs [m1]; exact this
    · have := key p3 h3
      simp -implicitDefEqProofs [m1]; exact this
  · rintro ρ ⟨ps, x, y, rfl, hl, hp⟩
    simp -implicitDefEqProofs
    exact q ps ⟨by omega, hp⟩
theorem w_pairs {n m : Int} {Q : List PyData → Prop} (n0 : 1 ≤ n) (n8 : n ≤ 8) (m0 : 0 ≤ m) (m24 : m ≤ 24) (q : ∀ ps, PsG ps → Q (ps.map IT.encE)) : g__law_pairsF [pot, .int n, .int m] Q := by
  refine ⟨rfl, ?_⟩
  simp -implicitDefEqProofs [b__law_pairsF, pw10]
  intro k k0 k5
  have hk : k = 0 ∨ k = 1 ∨ k = 2 ∨ k = 3 ∨ k = 4 := by omega
  rcases hk with rfl | rfl | rfl | rfl | rfl <;> simp -implicitDefEqProofs <;> exact w_pairsB n0 n8 m0 m24 (by decide) (by decide) (by decide) q
theorem forP_ind {α : Type} {enc : α → PyData} {fg : PyData → DL.Env → Pp DL.Env} {fb : Tp} {R : (List IT.Pe) → DL.Env → Prop} (Inv : List α → (List IT.Pe) → DL.Env → Prop) {xs : List α} {es : (List IT.Pe)} {ρ : DL.Env} (h0 : Inv [] es ρ)
    (hs : ∀ pre x post es ρ, xs = pre ++ x :: post → Inv pre es ρ → ∀ K : (List IT.Pe) → DL.Env → Prop, (∀ es' ρ', Inv (pre ++ [x]) es' ρ' → K es' ρ') → fg (enc x) ρ fun ρ' => fb K es ρ') (he : ∀ es ρ, Inv xs es ρ → R es ρ) : forP fg fb R (xs.map enc) es ρ := by
  have : ∀ (post pre : List α) (es : (List IT.Pe)) (ρ : DL.Env), xs = pre ++ post → Inv pre es ρ → forP fg fb R (post.map enc) es ρ := by
    intro post
    induction post with
    | nil => intro pre es ρ e h; rw [List.append_nil] at e; subst e; exact he es ρ h
    | cons x r ih =>
      intro pre es ρ e h
      exact hs pre x r es ρ e h _ fun es' ρ' h' => ih (pre ++ [x]) es' ρ' (by rw [e]; simp) h'
  exact this xs [] es ρ rfl h0
def addE (es : (List IT.Pe)) (p : IT.Pe) : (List IT.Pe) := putP es p.1 ((getP es p.1).getD 0 + p.2)
def addP (ps : (List IT.Pe)) : (List IT.Pe) := ps.foldl addE []
theorem addP_snoc {ps : (List IT.Pe)} {p : IT.Pe} : addP (ps ++ [p]) = addE (addP ps) p := by unfold addP; rw [List.foldl_append]; rfl
theorem putP_keys (es : (List IT.Pe)) (k : List Int) (n : Int) : (putP es k n).map (·.1) = if k ∈ es.map (·.1) then es.map (·.1) else es.map (·.1) ++ [k] := by
  have ha : (es.any fun e => decide (e.1 = k)) = true ↔ k ∈ es.map (·.1) := by
    rw [List.any_eq_true, List.mem_map]
    exact ⟨fun ⟨e, he, h⟩ => ⟨e, he, of_decide_eq_true h⟩, fun ⟨e, he, h⟩ => ⟨e, he, decide_eq_true h⟩⟩
  unfold putP
  by_cases h : k ∈ es.map (·.1)
  · rw [if_pos (ha.mpr h), if_pos h, List.map_map]
    refine List.map_congr_left fun e _ => ?_
    show (if e.1 = k then (e.1, n) else e).1 = e.1
    split <;> rfl
  · rw [if_neg fun z => h (ha.mp z), if_neg h, List.map_append]; rfl
theorem addP_keys (ps : (List IT.Pe)) : ((addP ps).map (·.1)).Nodup ∧ (∀ k, k ∈ (addP ps).map (·.1) ↔ k ∈ ps.map (·.1)) ∧ (addP ps).length ≤ ps.length := by
  have : ∀ post pre : (List IT.Pe), ps = pre ++ post → ((addP pre).map (·.1)).Nodup ∧ (∀ k, k ∈ (addP pre).map (·.1) ↔ k ∈ pre.map (·.1)) ∧ (addP pre).length ≤ pre.length → ((addP ps).map (·.1)).Nodup ∧ (∀ k, k ∈ (addP ps).map (·.1) ↔ k ∈ ps.map (·.1)) ∧ (addP ps).length ≤ ps.length := by
    intro post
    induction post with
    | nil => intro pre e h; rw [List.append_nil] at e; subst e; exact h
    | cons p r ih =>
      intro pre e ⟨h1, h2, h3⟩
      refine ih (pre ++ [p]) (by rw [e]; simp) ?_
      rw [addP_snoc]
      have hk := putP_keys (addP pre) p.1 ((getP (addP pre) p.1).getD 0 + p.2)
      have hl : (addE (addP pre) p).length = ((addE (addP pre) p).map (·.1)).length := (List.length_map _).symm
      have hk2 : (addE (addP pre) p).map (·.1) = if p.1 ∈ (addP pre).map (·.1) then (addP pre).map (·.1) else (addP pre).map (·.1) ++ [p.1] := hk
      rw [hl, hk2]
      by_cases hm : p.1 ∈ (addP pre).map (·.1)
      · rw [if_pos hm]
        refine ⟨h1, fun k => ?_, by simp at h3 ⊢; omega⟩
        rw [h2, List.map_append, List.mem_append]
        refine ⟨.inl, fun h => h.elim id fun h => ?_⟩
        simp at h
        rw [h]; exact (h2 _).mp hm
      · rw [if_neg hm]
        refine ⟨List.nodup_append.mpr ⟨h1, by simp, fun a ha b hb e => by simp at hb; subst hb; subst e; exact hm ha⟩, fun k => ?_, by simp; omega⟩
        rw [List.map_append, List.mem_append, List.mem_append, h2]
        simp
  exact this ps [] rfl ⟨List.nodup_nil, fun k => Iff.rfl, Nat.le_refl _⟩
def ltE (x y : IT.Pe) : Bool := if x.1 = y.1 then decide (x.2 < y.2) else ltI x.1 y.1
theorem eqv_I (x y : List Int) : (PyData.eqv (encI x) (encI y) = true) ↔ x = y := ⟨fun h => encI_inj (eqv_eq _ _ noB_encI noB_encI h), fun h => by
  subst h
  have h2 := eq_self (d := encI x) ok_encI (Nat.le_trans dep_encI (by decide))
  unfold dEq at h2
  split at h2
  · injection h2 with h2; injection h2
  · cases h2⟩
theorem ok_encE (e : IT.Pe) : okD (IT.encE e) = true := by
  show (okD (encI e.1) && (okD (.int e.2) && true)) = true
  rw [ok_encI]; rfl
theorem dep_encE (e : IT.Pe) : depD (IT.encE e) ≤ 2 := by
  have h1 := dep_encI (a := e.1)
  show max (depD (encI e.1)) (max 0 0) + 1 ≤ 2
  omega
theorem cmp_E (x y : IT.Pe) : DS.cmpD .Lt 3 (IT.encE x) (IT.encE y) = some (ltE x y) := by
  show (if SeqAt.shaped (IT.encE x) = true ∧ SeqAt.shaped (IT.encE y) = true then (if PyData.eqv (encI x.1) (encI y.1) = true then (if PyData.eqv (.int x.2) (.int y.2) = true then DS.cmpAll .Lt (DS.cmpD .Lt 2) [] [] else DS.cmpD .Lt 2 (.int x.2) (.int y.2)) else DS.cmpD .Lt 2 (encI x.1) (encI y.1)) else none) = _
  rw [if_pos ⟨shaped_ok (ok_encE x) (Nat.le_trans (dep_encE x) (by decide)), shaped_ok (ok_encE y) (Nat.le_trans (dep_encE y) (by decide))⟩]
  unfold ltE
  by_cases h : x.1 = y.1
  · rw [if_pos ((eqv_I _ _).mpr h), if_pos h]
    by_cases h2 : x.2 = y.2
    · have e1 : PyData.eqv (.int x.2) (.int y.2) = true := by rw [h2]; simp [PyData.eqv]
      rw [if_pos e1, h2]
      show some false = some (decide (y.2 < y.2))
      rw [decide_eq_false (Int.lt_irrefl _)]
    · have e1 : ¬ PyData.eqv (.int x.2) (.int y.2) = true := by simp [PyData.eqv, h2]
      rw [if_neg e1]; rfl
  · rw [if_neg fun z => h ((eqv_I _ _).mp z), if_neg h, cmp_ints]
theorem ltE_irr (a : IT.Pe) : ltE a a = false := by unfold ltE; rw [if_pos rfl, decide_eq_false (Int.lt_irrefl _)]
theorem ltE_trs (a b c : IT.Pe) (h1 : ltE a b = true) (h2 : ltE b c = true) : ltE a c = true := by
  unfold ltE at *
  by_cases e1 : a.1 = b.1
  · rw [if_pos e1] at h1
    have h1 := of_decide_eq_true h1
    by_cases e2 : b.1 = c.1
    · rw [if_pos e2] at h2
      have h2 := of_decide_eq_true h2
      rw [if_pos (e1.trans e2)]; exact decide_eq_true (by omega)
    · rw [if_neg e2] at h2
      rw [if_neg fun z => e2 (e1.symm.trans z), e1]; exact h2
  · rw [if_neg e1] at h1
    by_cases e2 : b.1 = c.1
    · rw [if_neg fun z => e1 (z.trans e2.symm), ← e2]; exact h1
    · rw [if_neg e2] at h2
      have h3 := ltI_trs h1 h2
      rw [if_neg fun z => by rw [z, ltI_irr] at h3; cases h3]; exact h3
theorem ltE_ntr (a b c : IT.Pe) (h : ltE a c = true) : ltE a b = true ∨ ltE b c = true := by
  unfold ltE at *
  by_cases e1 : a.1 = c.1
  · rw [if_pos e1] at h
    have h := of_decide_eq_true h
    by_cases e2 : a.1 = b.1
    · rw [if_pos e2, if_pos (e2.symm.trans e1)]
      rcases Int.lt_or_le a.2 b.2 with z | z
      · exact .inl (decide_eq_true z)
      · exact .inr (decide_eq_true (by omega))
    · rw [if_neg e2, if_neg fun z => e2 (e1.trans z.symm)]
      cases h1 : ltI a.1 b.1 with
      | true => exact .inl rfl
      | false =>
        refine .inr ?_
        cases h2 : ltI b.1 c.1 with
        | true => rfl
        | false => rw [← e1] at h2; exact absurd (ltI_tot h1 h2) e2
  · rw [if_neg e1] at h
    by_cases e2 : a.1 = b.1
    · rw [if_neg (show ¬ b.1 = c.1 from fun z => e1 (e2.trans z)), ← e2]; exact .inr h
    · rw [if_neg e2]
      by_cases e3 : b.1 = c.1
      · rw [e3]; exact .inl h
      · rw [if_neg e3]; exact ltI_ntr h
theorem isort_id {ns : List Int} (h : ns.Pairwise (· < ·)) : isort ns = ns := by
  have hn : ns.Nodup := h.imp fun z => Int.ne_of_lt z
  exact rise_eq (((isort_sorted ns).and ((isort_perm ns).nodup_iff.mpr hn)).imp fun ⟨a, b⟩ => by omega) h fun x => (isort_perm ns).mem_iff
theorem retP_of {E : En} {es : (List IT.Pe)} (hl : ∀ e ∈ es, e.1.length ≤ sizeLine) (h : sortNK [.list (es.map IT.encE)] E.ro) : retP E es := by
  obtain ⟨xs, rk, e, ⟨_, _, h1⟩, hc, q⟩ := h
  injection e with e _
  injection e with e
  subst e
  rw [List.length_map] at h1 q
  refine ⟨rk, ⟨h1, hl⟩, fun i j x y hx hy => hc i j _ _ (by rw [List.getElem?_map, hx]; rfl) (by rw [List.getElem?_map, hy]; rfl), q⟩
theorem w_made_pot {ps : (List IT.Pe)} {Q : List PyData → Prop} (hl : ps.length ≤ 1000) (hr : ∀ p ∈ ps, p.1.Pairwise (· < ·) ∧ p.1.length ≤ 1000) (q : ∀ ys : (List IT.Pe), ys.Perm (addP ps) → ys.Pairwise (fun a b => ltI a.1 b.1 = true) → Q (ys.map IT.encE)) : g_made_potF [.list (ps.map IT.encE)] Q := by
  refine ⟨rfl, ?_⟩
  simp -implicitDefEqProofs [b_made_potF]
  obtain ⟨nd, hm, hln⟩ := addP_keys ps
  refine forP_ind (enc := IT.encE) (fun pre es ρ => es = addP pre ∧ ∃ x2 x3 x4, ρ = [some (.dat (.list (ps.map IT.encE))), none, x2, x3, x4]) ⟨rfl, _, _, _, rfl⟩ ?_ ?_
  · rintro pre p post es ρ e ⟨rfl, x2, x3, x4, rfl⟩ K hK
    obtain ⟨h1, h2⟩ := hr p (by rw [e]; simp)
    have hp := (addP_keys pre).2.2
    have hpl : pre.length ≤ 1000 := by have := congrArg List.length e; simp at this; omega
    have z1 : p.1.length ≤ sizeLine := sl (by omega)
    have z2 : (addP pre).length < sizeLine := slt (by omega)
    simp -implicitDefEqProofs [IT.encE, isort_id h1]
    refine ⟨p.1, rfl, z1, ?_⟩
    simp -implicitDefEqProofs [z2]
    exact hK _ _ ⟨by rw [addP_snoc]; rfl, _, _, _, rfl⟩
  · rintro es ρ ⟨rfl, x2, x3, x4, rfl⟩
    have hk : ∀ e ∈ addP ps, e.1.length ≤ sizeLine := fun e he => by
      obtain ⟨p, hp, ep⟩ := List.mem_map.mp ((hm e.1).mp (List.mem_map.mpr ⟨e, he, rfl⟩))
      rw [← ep]; exact sl (by have := (hr p hp).2; omega)
    refine retP_of hk (sortN_of (enc := IT.encE) (lt := ltE) (xs := addP ps) ltE_irr ltE_trs ltE_ntr (fun x _ => ⟨IT.nl_encE x, IT.tt_encE x⟩) (by omega) (fun x _ y _ => cmp_E x y) fun ys hp hs => ?_)
    refine q ys hp ?_
    have nd2 : (ys.map (·.1)).Nodup := (hp.map (·.1)).nodup_iff.mpr nd
    rw [List.Nodup, List.pairwise_map] at nd2
    refine (hs.and nd2).imp fun {a b} ⟨u, v⟩ => ?_
    unfold ltE at u
    rw [if_neg fun z => v z.symm] at u
    cases h : ltI a.1 b.1 with
    | true => rfl
    | false => exact absurd (ltI_tot h u) v
theorem ok_intsL {ns : List Int} : okD (.list (ns.map PyData.int)) = true := by show okAll _ = true; exact okAll_map fun _ _ => rfl
theorem dep_intsL {ns : List Int} : depD (.list (ns.map PyData.int)) ≤ 60 := by
  show depAllD _ + 1 ≤ 60
  have := dep_map (enc := PyData.int) (k := 0) (xs := ns) fun _ _ => Nat.le_refl _
  omega
theorem eq_intsL {a b : List Int} : dEq (.list (a.map PyData.int)) (.list (b.map PyData.int)) = some (.bool (decide (a = b))) := by
  by_cases h : a = b
  · subst h; rw [eq_self ok_intsL dep_intsL, decide_eq_true rfl]
  · have hn : ∀ ns : List Int, noB (.list (ns.map PyData.int)) = true := fun ns => noBs_map fun _ _ => rfl
    rw [eq_ne (hn a) (hn b) dep_intsL dep_intsL fun e => h (encI_inj (by unfold encI; injection e with e; rw [e])), decide_eq_false h]
theorem lcGo2_boundW {α : Type} (N : Nat) {g g1 : PyData → DL.Env → Pp DL.Env} {it1 : DL.Env → Pp (List PyData)} {ft1 : DL.Env → Pp Bool} {fe : DL.Env → Pp PyData} {vs1 : List Nat} {ρ : DL.Env} {enc : α → PyData} {f : α → List PyData} {xs : List α} {acc : List PyData} {Q : List PyData → Prop}
    (hs : ∀ x ∈ xs, ∀ (L : Nat → Prop) (K : List PyData → Prop), (∀ m, m ≤ N → L m) → K (f x) → (g (enc x) ρ fun ρ2 => it1 ρ2 fun es => L es.length ∧ lcGo g1 ft1 fe (wipeE ρ2 vs1) es K)) (hl : acc.length + (xs.flatMap f).length + N ≤ sizeLine) (q : Q (acc ++ xs.flatMap f)) :
    lcGo2 g (fun _ => DL.ret true) it1 g1 ft1 fe vs1 ρ acc (xs.map enc) Q := by
  induction xs generalizing acc with
  | nil => rw [List.flatMap_nil, List.append_nil] at q; exact q
  | cons x r ih =>
    rw [List.flatMap_cons] at hl q
    show (g (enc x) ρ fun ρ2 => it1 ρ2 fun es => acc.length + es.length ≤ sizeLine ∧ lcGo g1 ft1 fe (wipeE ρ2 vs1) es (fun ys => lcGo2 g (fun _ => DL.ret true) it1 g1 ft1 fe vs1 ρ (acc ++ ys) (r.map enc) Q))
    refine hs x List.mem_cons_self (fun n => acc.length + n ≤ sizeLine) _ (fun m hm => by omega) (ih (fun y hy => hs y (List.mem_cons_of_mem _ hy)) ?_ ?_)
    · rw [List.length_append] at hl ⊢; omega
    · rw [List.append_assoc]; exact q
def opp (a b : List Int) : List Int := a.filter fun w => decide (-w ∈ b)
theorem e_opp {a b : List Int} {Q : List PyData → Prop} : g_opposite_wordsF [encI a, encI b] Q = Q ((opp a b).map PyData.int) := by
  have : ∀ {K : List PyData → Prop}, lcGo (gN 2) (tBool (eOp (dIn false) (eUn dNeg (eVar 2)) (eVar 1))) (eVar 2) [some (.dat (encI a)), some (.dat (encI b)), none] (a.map PyData.int) K = K ((opp a b).map PyData.int) := fun {K} => by
    refine lcGo_filter (enc := PyData.int) (f := PyData.int) (p := fun w => decide (-w ∈ b)) fun w hw => ⟨rfl, fun K _ => ?_⟩
    simp -implicitDefEqProofs [encI, in_intsT]
  have hi : itemsD (encI a) = some (a.map PyData.int) := rfl
  simp -implicitDefEqProofs [g_opposite_wordsF, b_opposite_wordsF, hi, this]
def poursC (cs : List (List Int)) (n : Int) : List (List Int × List Int) := cs.flatMap fun a => (cs.filter fun b => decide (opp a b = [n])).map fun b => (a, b)
def poursL (ys : List IT.Pe) (n : Int) : List (List Int × List Int) := poursC (ys.map (·.1)) n
def encPP (p : List Int × List Int) : PyData := .tuple [encI p.1, encI p.2]
theorem flat_len {α β : Type} {f : α → List β} {N : Nat} : ∀ {xs : List α}, (∀ x ∈ xs, (f x).length ≤ N) → (xs.flatMap f).length ≤ xs.length * N
  | [], _ => by simp
  | x :: r, h => by
    rw [List.flatMap_cons, List.length_append, List.length_cons, Nat.succ_mul]
    have h1 := h x List.mem_cons_self
    have h2 := flat_len (xs := r) fun y hy => h y (List.mem_cons_of_mem _ hy)
    omega
theorem w_pours {ys : List IT.Pe} {n : Int} {Q : List PyData → Prop} (hl : ys.length ≤ 100) (q : Q ((poursL ys n).map encPP)) : g_pours_nowF [.list (ys.map IT.encE), .int n] Q := by
  refine ⟨rfl, ?_⟩
  simp -implicitDefEqProofs [b_pours_nowF]
  refine lcGo_mapW (enc := IT.encE) (f := fun e => encI e.1) (fun e he => ⟨rfl, fun K hK => ?_⟩) ?_
  · simp -implicitDefEqProofs [IT.encE]; exact hK
  have hm : (ys.map fun e => encI e.1) = (ys.map (·.1)).map encI := by rw [List.map_map]; rfl
  rw [hm]
  unfold poursL at q
  have hl2 : (ys.map (·.1)).length ≤ 100 := by rw [List.length_map]; exact hl
  generalize ys.map (·.1) = cs at q hl2
  have hf : ∀ a : List Int, ((cs.filter fun b => decide (opp a b = [n])).map fun b => encPP (a, b)).length ≤ 100 := fun a => by
    rw [List.length_map]
    exact Nat.le_trans (List.length_filter_le _ _) hl2
  refine lcGo2_boundW (enc := encI) (N := 100) (f := fun a => (cs.filter fun b => decide (opp a b = [n])).map fun b => encPP (a, b)) (fun a ha L K hL hK => ?_) ?_ ?_
  · simp -implicitDefEqProofs
    refine ⟨hL _ hl2, ?_⟩
    refine lcGo_filterW (enc := encI) (f := fun b => encPP (a, b)) (p := fun b => decide (opp a b = [n])) (fun b hb => ⟨rfl, fun K hK => ?_⟩) hK
    simp -implicitDefEqProofs [e_opp]
    have e1 : dEq (.list ((opp a b).map PyData.int)) (.list [.int n]) = some (.bool (decide (opp a b = [n]))) := eq_intsL (b := [n])
    rw [e1]
    simp -implicitDefEqProofs [] at hK ⊢
    exact hK
  · have := flat_len (xs := cs) (N := 100) fun a _ => hf a
    refine sl ?_
    have h2 : cs.length * 100 ≤ 100 * 100 := Nat.mul_le_mul_right _ hl2
    simp only [List.length_nil] at *
    omega
  · rw [List.nil_append]
    unfold poursC at q
    rw [List.map_flatMap] at q
    simpa [Function.comp_def] using q
def nameN (a b : List Int) : List Int := (([1, 2, 3, 4, 5, 6, 7, 8] : List Int)).filter fun k => (decide (k ∈ a) && decide (-k ∈ b)) || (decide (-k ∈ a) && decide (k ∈ b))
def nameL (a b : List Int) : Int := match nameN a b with | [k] => if k ∈ a then k else 0 | _ => 0
theorem e_name {a b : List Int} {Q : PyData → Prop} (q : Q (.int (nameL a b))) : g__law_name [encI a, encI b] Q := by
  refine ⟨rfl, ?_⟩
  simp -implicitDefEqProofs [b__law_name, r2_small (show (-50000 : Int) ≤ 1 by decide) (by decide) (show (-50000 : Int) ≤ 9 by decide) (by decide)]
  have hr : rangeD 1 8 = ([1, 2, 3, 4, 5, 6, 7, 8] : List Int).map PyData.int := rfl
  rw [hr]
  refine lcGo_filterW (enc := PyData.int) (f := PyData.int) (p := fun k => (decide (k ∈ a) && decide (-k ∈ b)) || (decide (-k ∈ a) && decide (k ∈ b))) (fun k hk => ⟨rfl, fun K hK => ?_⟩) ?_
  · simp -implicitDefEqProofs [encI, in_intsT]
    by_cases h1 : k ∈ a <;> by_cases h2 : -k ∈ b <;> by_cases h3 : -k ∈ a <;> by_cases h4 : k ∈ b <;> simp -implicitDefEqProofs [h1, h2, h3, h4] at hK ⊢ <;> exact hK
  · have e1 : (([1, 2, 3, 4, 5, 6, 7, 8] : List Int).filter fun k => (decide (k ∈ a) && decide (-k ∈ b)) || (decide (-k ∈ a) && decide (k ∈ b))) = nameN a b := rfl
    rw [e1]
    unfold nameL at q
    generalize nameN a b = l at q
    match l, q with
    | [], q => simp -implicitDefEqProofs at q ⊢; exact q
    | [k], q =>
      simp -implicitDefEqProofs [encI, in_intsT] at q ⊢
      by_cases h : k ∈ a
      · simp -implicitDefEqProofs [h] at q ⊢; exact q
      · simp -implicitDefEqProofs [h] at q ⊢; exact q
    | k :: k2 :: r, q =>
      have h : ¬ (((k :: k2 :: r).map PyData.int).length : Int) = 1 := by simp; omega
      rw [if_neg h]
      exact q
theorem name_iff {a b : List Int} {n : Int} (ha : ClG a) (hb : ClG b) (n1 : 1 ≤ n) : opp a b = [n] ↔ n ∈ a ∧ -n ∈ b ∧ nameL a b = n := by
  have nd : (opp a b).Nodup := (ha.up.imp fun z => Int.ne_of_lt z).filter _
  have mo : ∀ w, w ∈ opp a b ↔ w ∈ a ∧ -w ∈ b := fun w => by unfold opp; rw [List.mem_filter]; simp
  have mn : ∀ k, k ∈ nameN a b ↔ (1 ≤ k ∧ k ≤ 8) ∧ ((k ∈ a ∧ -k ∈ b) ∨ (-k ∈ a ∧ k ∈ b)) := fun k => by
    unfold nameN
    rw [List.mem_filter]
    simp only [Bool.or_eq_true, Bool.and_eq_true, decide_eq_true_eq, List.mem_cons, List.mem_nil_iff, or_false]
    refine ⟨fun ⟨h1, h2⟩ => ⟨by omega, h2⟩, fun ⟨h1, h2⟩ => ⟨by omega, h2⟩⟩
  have ndn : (nameN a b).Nodup := by
    unfold nameN
    exact List.Pairwise.filter _ (show ([1, 2, 3, 4, 5, 6, 7, 8] : List Int).Pairwise (· ≠ ·) by decide)
  have one : ∀ {l : List Int} {x : Int}, l.Nodup → (∀ y, y ∈ l ↔ y = x) → l = [x] := fun {l x} h1 h2 => by
    match l, h1, h2 with
    | [], _, h2 => exact absurd ((h2 x).mpr rfl) List.not_mem_nil
    | [y], _, h2 => rw [(h2 y).mp List.mem_cons_self]
    | y :: z :: r, h1, h2 =>
      have e1 := (h2 y).mp List.mem_cons_self
      have e2 := (h2 z).mp (List.mem_cons_of_mem _ List.mem_cons_self)
      rw [e1, e2] at h1
      exact absurd List.mem_cons_self (List.nodup_cons.mp h1).1
  constructor
  · intro h
    have hn : n ∈ a ∧ -n ∈ b := (mo n).mp (by rw [h]; exact List.mem_cons_self)
    refine ⟨hn.1, hn.2, ?_⟩
    have e : nameN a b = [n] := one ndn fun y => by
      rw [mn]
      constructor
      · rintro ⟨h1, h2 | h2⟩
        · have := (mo y).mpr h2
          rw [h] at this; simpa using this
        · have := (mo (-y)).mpr ⟨h2.1, by rw [Int.neg_neg]; exact h2.2⟩
          rw [h] at this
          have : -y = n := by simpa using this
          omega
      · rintro rfl
        exact ⟨⟨n1, by have := (ha.ok _ hn.1).2; omega⟩, .inl hn⟩
    unfold nameL
    rw [e]
    show (if n ∈ a then n else 0) = n
    rw [if_pos hn.1]
  · rintro ⟨h1, h2, h3⟩
    have e : nameN a b = [n] := by
      unfold nameL at h3
      split at h3
      · rename_i k hk
        split at h3
        · rw [hk, h3]
        · omega
      · omega
    refine one nd fun y => ?_
    rw [mo]
    constructor
    · rintro ⟨y1, y2⟩
      have y0 := ha.ok y y1
      have hy : (y.natAbs : Int) ∈ nameN a b := (mn _).mpr ⟨by omega, by
        rcases Int.lt_or_le y 0 with z | z
        · rw [show (y.natAbs : Int) = -y by omega, Int.neg_neg]; exact .inr ⟨y1, y2⟩
        · rw [show (y.natAbs : Int) = y by omega]; exact .inl ⟨y1, y2⟩⟩
      rw [e] at hy
      have hy : (y.natAbs : Int) = n := by simpa using hy
      rcases Int.lt_or_le y 0 with z | z
      · have : y = -n := by omega
        rw [this] at y1
        exact absurd y1 (ha.one n h1)
      · omega
    · rintro rfl
      exact ⟨h1, h2⟩
def poursN (cs : List (List Int)) (n : Int) (a : List Int) : List (List Int × List Int) := if n ∈ a then ((cs.filter fun b => decide (-n ∈ b)).filter fun b => decide (nameL a b = n)).map fun b => (a, b) else []
theorem flat_congr {α β : Type} {f g : α → List β} : ∀ {xs : List α}, (∀ x ∈ xs, f x = g x) → xs.flatMap f = xs.flatMap g
  | [], _ => rfl
  | x :: r, h => by rw [List.flatMap_cons, List.flatMap_cons, h x List.mem_cons_self, flat_congr fun y hy => h y (List.mem_cons_of_mem _ hy)]
theorem pours_same {cs : List (List Int)} {n : Int} (h : ∀ c ∈ cs, ClG c) (n1 : 1 ≤ n) : cs.flatMap (poursN cs n) = poursC cs n := by
  refine flat_congr fun a ha => ?_
  unfold poursN
  by_cases hn : n ∈ a
  · rw [if_pos hn, List.filter_filter]
    congr 1
    refine List.filter_congr fun b hb => ?_
    rw [Bool.eq_iff_iff, Bool.and_eq_true, decide_eq_true_iff, decide_eq_true_iff, decide_eq_true_iff, name_iff (h a ha) (h b hb) n1]
    exact ⟨fun ⟨x, y⟩ => ⟨hn, y, x⟩, fun ⟨_, y, x⟩ => ⟨x, y⟩⟩
  · rw [if_neg hn]
    have : (cs.filter fun b => decide (opp a b = [n])) = [] := List.filter_eq_nil_iff.mpr fun b hb z => hn ((name_iff (h a ha) (h b hb) n1).mp (of_decide_eq_true z)).1
    rw [this]; rfl
theorem w_lpours {ys : List IT.Pe} {n : Int} {Q : List PyData → Prop} (hl : ys.length ≤ 100) (hc : ∀ e ∈ ys, ClG e.1) (n1 : 1 ≤ n) (q : Q ((poursL ys n).map encPP)) : g__law_poursF [.list (ys.map IT.encE), .int n] Q := by
  refine ⟨rfl, ?_⟩
  simp -implicitDefEqProofs [b__law_poursF]
  refine lcGo_filterW (enc := IT.encE) (f := fun e => encI e.1) (p := fun e => decide (-n ∈ e.1)) (fun e he => ⟨rfl, fun K hK => ?_⟩) ?_
  · simp -implicitDefEqProofs [IT.encE, in_intsT] at hK ⊢; exact hK
  have hm : ((ys.filter fun e => decide (-n ∈ e.1)).map fun e => encI e.1) = ((ys.map (·.1)).filter fun b => decide (-n ∈ b)).map encI := by
    rw [List.filter_map, List.map_map]; rfl
  rw [hm]
  have hl2 : (ys.map (·.1)).length ≤ 100 := by rw [List.length_map]; exact hl
  have hc2 : ∀ c ∈ ys.map (·.1), ClG c := fun c h => by
    obtain ⟨e, he, rfl⟩ := List.mem_map.mp h
    exact hc e he
  unfold poursL at q
  rw [← pours_same hc2 n1] at q
  generalize ecs : ys.map (·.1) = cs at hl2 hc2 q
  have hN : ∀ a, (poursN cs n a).length ≤ 100 := fun a => by
    unfold poursN
    split
    · rw [List.length_map]
      exact Nat.le_trans (List.length_filter_le _ _) (Nat.le_trans (List.length_filter_le _ _) hl2)
    · exact Nat.zero_le _
  refine forGo_map (enc := IT.encE) (fun pre ρ => ∃ x4 x5, ρ = [some (.dat (.list (ys.map IT.encE))), some (.dat (.int n)), some (.dat (.list ((cs.filter fun b => decide (-n ∈ b)).map encI))), some (.own (((pre.map (·.1)).flatMap (poursN cs n)).map encPP)), x4, x5, none, none]) ⟨_, _, rfl⟩ ?_ ?_
  · rintro pre e post ρ he ⟨x4, x5, rfl⟩ K hK
    have hec : e.1 ∈ cs := by rw [← ecs, he]; simp
    have hpl : pre.length ≤ 100 := by have := congrArg List.length he; simp at this; omega
    have hz : ((pre.map (·.1)).flatMap (poursN cs n)).length ≤ 100 * 100 := Nat.le_trans (flat_len fun a _ => hN a) (by rw [List.length_map]; exact Nat.mul_le_mul_right _ hpl)
    have hsn : ((pre ++ [e]).map (·.1)).flatMap (poursN cs n) = (pre.map (·.1)).flatMap (poursN cs n) ++ poursN cs n e.1 := by
      rw [List.map_append, List.flatMap_append]; simp
    simp -implicitDefEqProofs [IT.encE, in_intsT]
    by_cases hn : n ∈ e.1
    · simp -implicitDefEqProofs [hn]
      have hP : poursN cs n e.1 = ((cs.filter fun b => decide (-n ∈ b)).filter fun b => decide (nameL e.1 b = n)).map fun b => (e.1, b) := by unfold poursN; rw [if_pos hn]
      refine lcGo_filterW (enc := encI) (f := fun b => encPP (e.1, b)) (p := fun b => decide (nameL e.1 b = n)) (fun b hb => ⟨rfl, fun K hK => ?_⟩) ?_
      · simp -implicitDefEqProofs []
        refine e_name ?_
        simp -implicitDefEqProofs [] at hK ⊢
        exact hK
      · have hm2 : (((cs.filter fun b => decide (-n ∈ b)).filter fun b => decide (nameL e.1 b = n)).map fun b => encPP (e.1, b)) = (poursN cs n e.1).map encPP := by rw [hP, List.map_map]; rfl
        rw [hm2]
        have hz2 := hN e.1
        have hz3 := hz
        rw [List.length_flatMap, List.map_map] at hz3
        simp -implicitDefEqProofs []
        refine ⟨sl (by omega), hK _ ⟨_, _, by rw [hsn, List.map_append]⟩⟩
    · simp -implicitDefEqProofs [hn]
      have hP : poursN cs n e.1 = [] := by unfold poursN; rw [if_neg hn]
      exact hK _ ⟨_, _, by rw [hsn, hP, List.append_nil]⟩
  · rintro ρ ⟨x4, x5, rfl⟩
    rw [ecs]
    simp -implicitDefEqProofs
    exact q
theorem ok_encPP (p : List Int × List Int) : okD (encPP p) = true := by
  show (okD (encI p.1) && (okD (encI p.2) && true)) = true
  rw [ok_encI, ok_encI]; rfl
theorem dep_encPP (p : List Int × List Int) : depD (encPP p) ≤ 2 := by
  have h1 := dep_encI (a := p.1)
  have h2 := dep_encI (a := p.2)
  show max (depD (encI p.1)) (max (depD (encI p.2)) 0) + 1 ≤ 2
  omega
theorem law_holds : b_law eLaw (ρLaw 7) := by
  simp -implicitDefEqProofs [b_law, ρLaw, r1_small (show (-100000 : Int) ≤ 2 by omega) (by omega)]
  refine forGo_range (fun i ρ => ∃ x2 x3 x4 x5 x6 x7 x8, ρ = [none, some (.dat pot), x2, x3, x4, x5, x6, x7, x8]) ⟨_, _, _, _, _, _, _, rfl⟩ ?_ ?_
  · rintro i ρ hi ⟨x2, x3, x4, x5, x6, x7, x8, rfl⟩ K hK
    simp -implicitDefEqProofs [b_law_9]
    intro a a0 a1
    obtain ⟨n, hn, hat⟩ := pick_i (ns := [3, 2, 4, 5, 1, 6, 7, 8]) a0 (by simpa using a1)
    have hn8 : 1 ≤ n ∧ n ≤ 8 := by
      simp only [List.mem_cons, List.mem_nil_iff, or_false] at hn
      omega
    simp -implicitDefEqProofs at hat ⊢
    rw [hat]
    simp -implicitDefEqProofs [b_law_8]
    intro b b0 b1
    obtain ⟨m, hm, hatm⟩ := pick_i (ns := [6, 4, 8, 10, 12, 3, 0, 24]) b0 (by simpa using b1)
    have hm24 : 0 ≤ m ∧ m ≤ 24 := by
      simp only [List.mem_cons, List.mem_nil_iff, or_false] at hm
      omega
    simp -implicitDefEqProofs at hatm ⊢
    rw [hatm]
    simp -implicitDefEqProofs
    refine w_pairs hn8.1 hn8.2 hm24.1 hm24.2 fun ps hp => ?_
    have hpl := hp.1
    refine w_made_pot (by omega) (fun p h => ⟨(hp.2 p h).1.up, by have := (hp.2 p h).1.len; omega⟩) fun ys hys _ => ?_
    obtain ⟨_, hm, hln⟩ := addP_keys ps
    have hyl : ys.length ≤ 24 := by rw [hys.length_eq]; omega
    have hyc : ∀ e ∈ ys, ClG e.1 := fun e he => by
      obtain ⟨p, h, ep⟩ := List.mem_map.mp ((hm e.1).mp (List.mem_map.mpr ⟨e, hys.mem_iff.mp he, rfl⟩))
      rw [← ep]; exact (hp.2 p h).1
    have okY : okD (.list (ys.map IT.encE)) = true := okAll_map fun e _ => ok_encE e
    have dpY : depD (.list (ys.map IT.encE)) ≤ 60 := Nat.le_trans (Nat.succ_le_succ (dep_map (k := 2) fun e _ => dep_encE e)) (by decide)
    have nY := ne_self okY dpY
    simp -implicitDefEqProofs [b_law_7, b_law_6, r2_small (show (-50000 : Int) ≤ 1 by decide) (by decide) (show (-50000 : Int) ≤ 9 by decide) (by decide)]
    have hr : rangeD 1 8 = (List.range 8).map fun k : Nat => PyData.int (1 + (k : Int)) := rfl
    rw [hr]
    refine forGo_map (enc := fun k : Nat => PyData.int (1 + (k : Int))) (fun pre ρ => ∃ x6 x7 x8, ρ = [none, some (.dat pot), some (.dat (.int i)), some (.dat (.int n)), some (.dat (.list (ys.map IT.encE))), some (.dat (.list (ys.map IT.encE))), x6, x7, x8]) ⟨_, _, _, rfl⟩ ?_ ?_
    · rintro pre k post ρ e ⟨x6, x7, x8, rfl⟩ K' hK'
      simp -implicitDefEqProofs [b_law_5]
      refine w_lpours (by omega) hyc (by omega) ?_
      simp -implicitDefEqProofs [b_law_4]
      refine w_pours (by omega) ?_
      have okP : okD (.list ((poursL ys (1 + (k : Int))).map encPP)) = true := okAll_map fun p _ => ok_encPP p
      have dpP : depD (.list ((poursL ys (1 + (k : Int))).map encPP)) ≤ 3 := Nat.succ_le_succ (dep_map (k := 2) fun p _ => dep_encPP p)
      have nP := ne_self okP (Nat.le_trans dpP (by decide))
      have eP := fun {Q} => e_same 13 _ okP (Nat.lt_of_le_of_lt dpP (by decide)) Q
      simp -implicitDefEqProofs [b_law_3, eP, b_law_2, b_law_1]
      refine w_pours (by omega) ?_
      simp -implicitDefEqProofs [nP, nY]
      exact hK' _ ⟨_, _, _, rfl⟩
    · rintro ρ ⟨x6, x7, x8, rfl⟩
      exact hK _ ⟨_, _, _, _, _, _, _, rfl⟩
  · rintro ρ ⟨x2, x3, x4, x5, x6, x7, x8, rfl⟩
    simp -implicitDefEqProofs [b_law_10]
end WD
set_option Elab.async false
set_option linter.all false
set_option maxRecDepth 100000
set_option maxHeartbeats 400000
namespace WD
open PySem L2 DL
theorem all_mk {l : PySem.W.OpenLaw} {w : World} {K : PySem.W.Frag} {h : Heap} {mg : Str → Option Value} {fa f1 f2 f3 f4 f5 f6 f7 f8 f9 f10 f11 f12 : Addr} (X : K.In h) (G : h.Ns mainGlobals mg) (hfa : mg "law" = some (.ref fa))
    {od1 an1 od2 an2 od3 an3 od4 an4 od5 an5 od6 an6 od7 an7 od8 an8 od9 an9 od10 an10 od11 an11 od12 an12 : Option Addr} {sl1 sl2 sl3 sl4 sl5 sl6 sl7 sl8 sl9 sl10 sl11 sl12 : Array (Option Value)} {oc1 kV1 dc1 pm1 cd1 ct1 oc2 kV2 dc2 pm2 cd2 ct2 oc3 kV3 dc3 pm3 cd3 ct3 oc4 kV4 dc4 pm4 cd4 ct4 oc5 kV5 dc5 pm5 cd5 ct5 oc6 kV6 dc6 pm6 cd6 ct6 oc7 kV7 dc7 pm7 cd7 ct7 oc8 kV8 dc8 pm8 cd8 ct8 oc9 kV9 dc9 pm9 cd9 ct9 oc10 kV10 dc10 pm10 cd10 ct10 oc11 kV11 dc11 pm11 cd11 ct11 oc12 kV12 dc12 pm12 cd12 ct12 : Value}
    (a1 : PySem.W.nsIn K mainGlobals "made_pot" = some (some (.ref f1))) (l1 : K.lookup f1 = some ⟨oc1, od1, .func (PySem.W.fnOf "made_pot" "made_pot" (defArgs s_made_pot) (defBody s_made_pot) (defScope s_made_pot) .none kV1 dc1 pm1 an1 cd1 ct1), sl1⟩) (c1 : PySem.W.codeIn K cd1 "made_pot" = true) (k1 : PySem.W.keepIn K (.ref f1) = true)
    (a2 : PySem.W.nsIn K mainGlobals "opposite_words" = some (some (.ref f2))) (l2 : K.lookup f2 = some ⟨oc2, od2, .func (PySem.W.fnOf "opposite_words" "opposite_words" (defArgs s_opposite_words) (defBody s_opposite_words) (defScope s_opposite_words) .none kV2 dc2 pm2 an2 cd2 ct2), sl2⟩) (c2 : PySem.W.codeIn K cd2 "opposite_words" = true) (k2 : PySem.W.keepIn K (.ref f2) = true)
    (a3 : PySem.W.nsIn K mainGlobals "pours_now" = some (some (.ref f3))) (l3 : K.lookup f3 = some ⟨oc3, od3, .func (PySem.W.fnOf "pours_now" "pours_now" (defArgs s_pours_now) (defBody s_pours_now) (defScope s_pours_now) .none kV3 dc3 pm3 an3 cd3 ct3), sl3⟩) (c3 : PySem.W.codeIn K cd3 "pours_now" = true) (k3 : PySem.W.keepIn K (.ref f3) = true)
    (a4 : PySem.W.nsIn K mainGlobals "_law_row_of" = some (some (.ref f4))) (l4 : K.lookup f4 = some ⟨oc4, od4, .func (PySem.W.fnOf "_law_row_of" "_law_row_of" (defArgs s__law_row_of) (defBody s__law_row_of) (defScope s__law_row_of) .none kV4 dc4 pm4 an4 cd4 ct4), sl4⟩) (c4 : PySem.W.codeIn K cd4 "_law_row_of" = true) (k4 : PySem.W.keepIn K (.ref f4) = true)
    (a5 : PySem.W.nsIn K mainGlobals "_law_jar" = some (some (.ref f5))) (l5 : K.lookup f5 = some ⟨oc5, od5, .func (PySem.W.fnOf "_law_jar" "_law_jar" (defArgs s__law_jar) (defBody s__law_jar) (defScope s__law_jar) .none kV5 dc5 pm5 an5 cd5 ct5), sl5⟩) (c5 : PySem.W.codeIn K cd5 "_law_jar" = true) (k5 : PySem.W.keepIn K (.ref f5) = true)
    (a6 : PySem.W.nsIn K mainGlobals "_law_take" = some (some (.ref f6))) (l6 : K.lookup f6 = some ⟨oc6, od6, .func (PySem.W.fnOf "_law_take" "_law_take" (defArgs sTake) (defBody sTake) (defScope sTake) .none kV6 dc6 pm6 an6 cd6 ct6), sl6⟩) (c6 : PySem.W.codeIn K cd6 "_law_take" = true) (k6 : PySem.W.keepIn K (.ref f6) = true)
    (a7 : PySem.W.nsIn K mainGlobals "_law_tuple" = some (some (.ref f7))) (l7 : K.lookup f7 = some ⟨oc7, od7, .func (PySem.W.fnOf "_law_tuple" "_law_tuple" (defArgs s__law_tuple) (defBody s__law_tuple) (defScope s__law_tuple) .none kV7 dc7 pm7 an7 cd7 ct7), sl7⟩) (c7 : PySem.W.codeIn K cd7 "_law_tuple" = true) (k7 : PySem.W.keepIn K (.ref f7) = true)
    (a8 : PySem.W.nsIn K mainGlobals "_law_pairs" = some (some (.ref f8))) (l8 : K.lookup f8 = some ⟨oc8, od8, .func (PySem.W.fnOf "_law_pairs" "_law_pairs" (defArgs s__law_pairs) (defBody s__law_pairs) (defScope s__law_pairs) .none kV8 dc8 pm8 an8 cd8 ct8), sl8⟩) (c8 : PySem.W.codeIn K cd8 "_law_pairs" = true) (k8 : PySem.W.keepIn K (.ref f8) = true)
    (a9 : PySem.W.nsIn K mainGlobals "_law_name" = some (some (.ref f9))) (l9 : K.lookup f9 = some ⟨oc9, od9, .func (PySem.W.fnOf "_law_name" "_law_name" (defArgs s__law_name) (defBody s__law_name) (defScope s__law_name) .none kV9 dc9 pm9 an9 cd9 ct9), sl9⟩) (c9 : PySem.W.codeIn K cd9 "_law_name" = true) (k9 : PySem.W.keepIn K (.ref f9) = true)
    (a10 : PySem.W.nsIn K mainGlobals "_law_pours" = some (some (.ref f10))) (l10 : K.lookup f10 = some ⟨oc10, od10, .func (PySem.W.fnOf "_law_pours" "_law_pours" (defArgs s__law_pours) (defBody s__law_pours) (defScope s__law_pours) .none kV10 dc10 pm10 an10 cd10 ct10), sl10⟩) (c10 : PySem.W.codeIn K cd10 "_law_pours" = true) (k10 : PySem.W.keepIn K (.ref f10) = true)
    (a11 : PySem.W.nsIn K mainGlobals "_law_same" = some (some (.ref f11))) (l11 : K.lookup f11 = some ⟨oc11, od11, .func (PySem.W.fnOf "_law_same" "_law_same" (defArgs s__law_same) (defBody s__law_same) (defScope s__law_same) .none kV11 dc11 pm11 an11 cd11 ct11), sl11⟩) (c11 : PySem.W.codeIn K cd11 "_law_same" = true) (k11 : PySem.W.keepIn K (.ref f11) = true)
    (a12 : PySem.W.nsIn K mainGlobals "law" = some (some (.ref f12))) (l12 : K.lookup f12 = some ⟨oc12, od12, .func (PySem.W.fnOf "law" "law" (defArgs s_law) (defBody s_law) (defScope s_law) .none kV12 dc12 pm12 an12 cd12 ct12), sl12⟩) (c12 : PySem.W.codeIn K cd12 "law" = true) (k12 : PySem.W.keepIn K (.ref f12) = true)
    (z1 : PySem.W.nsIn K mainGlobals "len" = some none)
    (z2 : PySem.W.nsIn K mainGlobals "abs" = some none)
    (z3 : PySem.W.nsIn K mainGlobals "range" = some none)
    (z4 : PySem.W.nsIn K mainGlobals "sorted" = some none)
    (z5 : PySem.W.nsIn K mainGlobals "tuple" = some none)
    (z6 : PySem.W.nsIn K mainGlobals "int" = some none)
    (z7 : PySem.W.nsIn K mainGlobals "all" = some none)
    (z8 : PySem.W.nsIn K mainGlobals "any" = some none)
    (z9 : PySem.W.nsIn K mainGlobals "isinstance" = some none)
    (z10 : PySem.W.nsIn K mainGlobals "bool" = some none)
    (z11 : PySem.W.nsIn K mainGlobals "list" = some none)
    (z12 : PySem.W.nsIn K mainGlobals "sum" = some none)
    (z13 : PySem.W.nsIn K mainGlobals "min" = some none)
    (z14 : PySem.W.nsIn K mainGlobals "max" = some none)
    (z15 : PySem.W.nsIn K mainGlobals "enumerate" = some none)
    (z16 : PySem.W.nsIn K mainGlobals "zip" = some none)
    (z17 : PySem.W.nsIn K mainGlobals "set" = some none)
    (z18 : PySem.W.nsIn K mainGlobals "str" = some none)
    : ∃ fd : FuncData, (∀ (s : Shared) (v : Value), BindsTo s fd ⟨[v], []⟩ [("script", v)]) ∧ ∀ base : Heap, K.In base → base.Ns mainGlobals mg → FnOk l.prog w K mg base CX0 15 fa fd ["script"] (spLaw K) := by
  have e := hfa.symm.trans (PySem.W.mg_of X G a12)
  cases e
  have T : Tx mg := ⟨PySem.W.mg_none_of X G z1, PySem.W.mg_none_of X G z2, PySem.W.mg_none_of X G z3, PySem.W.mg_none_of X G z4, PySem.W.mg_none_of X G z5, PySem.W.mg_none_of X G z6, PySem.W.mg_none_of X G z7, PySem.W.mg_none_of X G z8, PySem.W.mg_none_of X G z9, PySem.W.mg_none_of X G z10, PySem.W.mg_none_of X G z11, PySem.W.mg_none_of X G z12, PySem.W.mg_none_of X G z13, PySem.W.mg_none_of X G z14, PySem.W.mg_none_of X G z15, PySem.W.mg_none_of X G z16, PySem.W.mg_none_of X G z17, PySem.W.mg_none_of X G z18⟩
  have F1 := fun_mk (st := s_made_pot) l1 c1 k1
  have F2 := fun_mk (st := s_opposite_words) l2 c2 k2
  have F3 := fun_mk (st := s_pours_now) l3 c3 k3
  have F4 := fun_mk (st := s__law_row_of) l4 c4 k4
  have F5 := fun_mk (st := s__law_jar) l5 c5 k5
  have F6 := fun_mk (st := sTake) l6 c6 k6
  have F7 := fun_mk (st := s__law_tuple) l7 c7 k7
  have F8 := fun_mk (st := s__law_pairs) l8 c8 k8
  have F9 := fun_mk (st := s__law_name) l9 c9 k9
  have F10 := fun_mk (st := s__law_pours) l10 c10 k10
  have F11 := fun_mk (st := s__law_same) l11 c11 k11
  have F12 := fun_mk (st := s_law) l12 c12 k12
  refine ⟨PySem.W.fnOf "law" "law" (defArgs s_law) (defBody s_law) (defScope s_law) .none kV12 dc12 pm12 an12 cd12 ct12, fun s v => .of_eq rfl, fun base _ _ => ?_⟩
  have b1 := F1.binds (ps := ["pairs"]) fun _ _ _ _ _ _ us hl => match us, hl with | [_], _ => rfl
  have b2 := F2.binds (ps := ["one", "other"]) fun _ _ _ _ _ _ us hl => match us, hl with | [_, _], _ => rfl
  have b3 := F3.binds (ps := ["pot", "name"]) fun _ _ _ _ _ _ us hl => match us, hl with | [_, _], _ => rfl
  have b4 := F4.binds (ps := ["cell"]) fun _ _ _ _ _ _ us hl => match us, hl with | [_], _ => rfl
  have b5 := F5.binds (ps := ["script"]) fun _ _ _ _ _ _ us hl => match us, hl with | [_], _ => rfl
  have b6 := F6.binds (ps := ["jar", "many"]) fun _ _ _ _ _ _ us hl => match us, hl with | [_, _], _ => rfl
  have b7 := F7.binds (ps := ["jar", "size"]) fun _ _ _ _ _ _ us hl => match us, hl with | [_, _], _ => rfl
  have b8 := F8.binds (ps := ["jar", "size", "many"]) fun _ _ _ _ _ _ us hl => match us, hl with | [_, _, _], _ => rfl
  have b9 := F9.binds (ps := ["one", "other"]) fun _ _ _ _ _ _ us hl => match us, hl with | [_, _], _ => rfl
  have b10 := F10.binds (ps := ["pairs", "name"]) fun _ _ _ _ _ _ us hl => match us, hl with | [_, _], _ => rfl
  have b11 := F11.binds (ps := ["found", "due"]) fun _ _ _ _ _ _ us hl => match us, hl with | [_, _], _ => rfl
  have C__law_take : DL.Callee l.prog w K mg base 1 "_law_take" ["jar", "many"] (spX K (famD (Dr K)) takeP) := ⟨f6, _, ok_takeX F6 T, b6, k6, PySem.W.mg_of X G a6⟩
  have C_made_potF : DL.Callee l.prog w K mg base 1 "made_pot" ["pairs"] (spPF K g_made_potF) := ⟨f1, _, ok_made_potF F1 T , b1, k1, PySem.W.mg_of X G a1⟩
  have C_opposite_wordsF : DL.Callee l.prog w K mg base 1 "opposite_words" ["one", "other"] (spPF K g_opposite_wordsF) := ⟨f2, _, ok_opposite_wordsF F2 T , b2, k2, PySem.W.mg_of X G a2⟩
  have C_pours_nowF : DL.Callee l.prog w K mg base 2 "pours_now" ["pot", "name"] (spPF K g_pours_nowF) := ⟨f3, _, ok_pours_nowF F3 T C_opposite_wordsF, b3, k3, PySem.W.mg_of X G a3⟩
  have C__law_row_ofF : DL.Callee l.prog w K mg base 1 "_law_row_of" ["cell"] (spPF K g__law_row_ofF) := ⟨f4, _, ok__law_row_ofF F4 T , b4, k4, PySem.W.mg_of X G a4⟩
  have C_pot : DL.Callee l.prog w K mg base 2 "_law_jar" ["script"] (spPo K (Dr K) []) := ⟨f5, _, ok__law_jar F5 T C__law_row_ofF pot_holds, b5, k5, PySem.W.mg_of X G a5⟩
  have C__law_tuple : DL.Callee l.prog w K mg base 2 "_law_tuple" ["jar", "size"] (spX K (famD (Dr K)) g__law_tuple) := ⟨f7, _, ok__law_tuple F7 T C__law_take, b7, k7, PySem.W.mg_of X G a7⟩
  have C__law_pairsF : DL.Callee l.prog w K mg base 3 "_law_pairs" ["jar", "size", "many"] (spXF K (famD (Dr K)) g__law_pairsF) := ⟨f8, _, ok__law_pairsF F8 T C__law_take C__law_tuple, b8, k8, PySem.W.mg_of X G a8⟩
  have C__law_name : DL.Callee l.prog w K mg base 1 "_law_name" ["one", "other"] (spP K g__law_name) := ⟨f9, _, ok__law_name F9 T , b9, k9, PySem.W.mg_of X G a9⟩
  have C__law_poursF : DL.Callee l.prog w K mg base 2 "_law_pours" ["pairs", "name"] (spPF K g__law_poursF) := ⟨f10, _, ok__law_poursF F10 T C__law_name, b10, k10, PySem.W.mg_of X G a10⟩
  have C__law_same : DL.Callee l.prog w K mg base 13 "_law_same" ["found", "due"] (spP K (g__law_same 13)) := all__law_same F11 b11 (PySem.W.mg_of X G a11) T  13
  exact ok_law F12 T C_pot C__law_take C__law_pairsF C_made_potF C__law_poursF C_pours_nowF C__law_same law_holds
theorem walk_all {l : PySem.W.OpenLaw} {q : Program} {loose : List Str} {XP : (Str → Option Value) → Heap → Prop} {YP : World → Heap → Prop} {d : DefRec} {K : Params → PySem.W.Frag} (hn : l.most = some 63) (hdf : d.params.defaults = [])
    (hY : ∀ (w : World) (h : Heap), YP w h → (K w.params).In h)
    (F : ∀ (w : World) (mg : Str → Option Value) (fa : Addr) (h : Heap), (K w.params).In h → h.Ns mainGlobals mg → mg d.name = some (.ref fa) →
      ∃ fd : FuncData, (∀ (s : Shared) (u : Value), BindsTo s fd ⟨[u], []⟩ [("script", u)]) ∧ ∀ base : Heap, (K w.params).In base → base.Ns mainGlobals mg → FnOk l.prog w (K w.params) mg base CX0 15 fa fd ["script"] (spLaw (K w.params))) :
    PySem.W.WalkO q loose XP YP l.row.toRowW d [] (fun f vs => PySem.call f vs) :=
  L2.walk_of (n := 63) (k := 15) (x := "script") (CX := fun _ => CX0) (sp := fun w => spLaw (K w.params)) hn (by decide) hdf ⟨rfl, by decide, by decide⟩ hY F (fun _ _ a ns hl _ hS => ⟨a, ns, rfl, hS, hl, fun _ => rfl⟩) fun _ _ _ _ _ z => z
end WD
open PySem PySem.W PyProof.Rows
set_option maxRecDepth 100000 in
set_option maxHeartbeats 0 in
theorem PySem.Challenge.cw_wishdues_k53_all_two_told_holds : PySem.Challenge.rw_wishdues_k53_all_two_told.Holds := by
  w_on; o_law; k_head; (case hw => w_witness2)
  k_fill
  refine WD.walk_all (l := PySem.Challenge.rw_wishdues_k53_all_two_told) rfl rfl (fun w h Y => PySem.W.kIn_of Y) ?F
  case F =>
    intro w mg fa h KX G hmg
    refine' WD.all_mk KX G hmg ?a1 ?l1 ?c1 ?k1 ?a2 ?l2 ?c2 ?k2 ?a3 ?l3 ?c3 ?k3 ?a4 ?l4 ?c4 ?k4 ?a5 ?l5 ?c5 ?k5 ?a6 ?l6 ?c6 ?k6 ?a7 ?l7 ?c7 ?k7 ?a8 ?l8 ?c8 ?k8 ?a9 ?l9 ?c9 ?k9 ?a10 ?l10 ?c10 ?k10 ?a11 ?l11 ?c11 ?k11 ?a12 ?l12 ?c12 ?k12 ?z1 ?z2 ?z3 ?z4 ?z5 ?z6 ?z7 ?z8 ?z9 ?z10 ?z11 ?z12 ?z13 ?z14 ?z15 ?z16 ?z17 ?z18   
    (case a1 => k_is); (case l1 => k_is); (case c1 => k_is); (case k1 => k_is)
    (case a2 => k_is); (case l2 => k_is); (case c2 => k_is); (case k2 => k_is)
    (case a3 => k_is); (case l3 => k_is); (case c3 => k_is); (case k3 => k_is)
    (case a4 => k_is); (case l4 => k_is); (case c4 => k_is); (case k4 => k_is)
    (case a5 => k_is); (case l5 => k_is); (case c5 => k_is); (case k5 => k_is)
    (case a6 => k_is); (case l6 => k_is); (case c6 => k_is); (case k6 => k_is)
    (case a7 => k_is); (case l7 => k_is); (case c7 => k_is); (case k7 => k_is)
    (case a8 => k_is); (case l8 => k_is); (case c8 => k_is); (case k8 => k_is)
    (case a9 => k_is); (case l9 => k_is); (case c9 => k_is); (case k9 => k_is)
    (case a10 => k_is); (case l10 => k_is); (case c10 => k_is); (case k10 => k_is)
    (case a11 => k_is); (case l11 => k_is); (case c11 => k_is); (case k11 => k_is)
    (case a12 => k_is); (case l12 => k_is); (case c12 => k_is); (case k12 => k_is)
    (case z1 => k_is)
    (case z2 => k_is)
    (case z3 => k_is)
    (case z4 => k_is)
    (case z5 => k_is)
    (case z6 => k_is)
    (case z7 => k_is)
    (case z8 => k_is)
    (case z9 => k_is)
    (case z10 => k_is)
    (case z11 => k_is)
    (case z12 => k_is)
    (case z13 => k_is)
    (case z14 => k_is)
    (case z15 => k_is)
    (case z16 => k_is)
    (case z17 => k_is)
    (case z18 => k_is)

