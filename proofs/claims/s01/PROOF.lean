import PyProof.Rows.All
import Wide.All
import OpenK.AllK
import Wide.FinOn
import PyProof.EqAt
import PyProof.EqKinds
import PyProof.TupleCall
import KE.BitLaws
import Open.SpecLaws
import KE.OsHead
import KE.OsGo
import PyProof.ZipIter
import KE.KFind
import PyProof.MinMaxWalk
import PySem.Challenge.RW_slotround_s01_answers
set_option Elab.async false
set_option linter.all false
set_option maxRecDepth 100000
namespace L2
open PySem PySem.Spec PyProof.Rows
abbrev Key := Sum Int Str
def keyIs : Key → Value → Bool
  | .inl k, v => Value.isInt k v
  | .inr x, v => Value.isStrOf x v
def keyH (w : World) : Key → Int
  | .inl k => hashInt k
  | .inr x => hashStr w x
theorem keyIs_shape : ∀ {k : Key} {v : Value}, keyIs k v = true → (∃ i t, k = Sum.inl i ∧ v = Value.int i t) ∨ (∃ x t, k = Sum.inr x ∧ v = Value.str x t)
  | .inl i, v, h => by
    obtain ⟨t, e⟩ := Value.isInt_shape (k := i) (v := v) h
    exact .inl ⟨i, t, rfl, e⟩
  | .inr x, v, h => by
    obtain ⟨t, e⟩ := Value.isStrOf_shape (x := x) (v := v) h
    exact .inr ⟨x, t, rfl, e⟩
theorem key_ll (a b : Int) : decide ((Sum.inl a : Key) = Sum.inl b) = (a == b) := by
  by_cases e : a = b
  · subst e; simp
  · have h : ¬ (Sum.inl a : Key) = Sum.inl b := fun q => e (Sum.inl.inj q)
    rw [decide_eq_false h]
    exact (beq_eq_false_iff_ne.mpr e).symm
theorem key_rr (a b : Str) : decide ((Sum.inr a : Key) = Sum.inr b) = decide (a = b) := by
  by_cases e : a = b
  · subst e; simp
  · have h : ¬ (Sum.inr a : Key) = Sum.inr b := fun q => e (Sum.inr.inj q)
    rw [decide_eq_false h, decide_eq_false e]
theorem key_lr (a : Int) (b : Str) : decide ((Sum.inl a : Key) = Sum.inr b) = false := decide_eq_false (fun q => nomatch q)
theorem key_rl (a : Str) (b : Int) : decide ((Sum.inr a : Key) = Sum.inl b) = false := decide_eq_false (fun q => nomatch q)
def mixKind (prog : Program) (w : World) : PySem.KeyKind prog w Key where
  is := keyIs
  hash := keyH w
  inj := fun v a b ha hb => by
    rcases keyIs_shape ha with ⟨i, t, rfl, rfl⟩ | ⟨x, t, rfl, rfl⟩
    · rcases keyIs_shape hb with ⟨j, u, rfl, e⟩ | ⟨y, u, rfl, e⟩
      · injection e with e1 _; rw [e1]
      · exact nomatch e
    · rcases keyIs_shape hb with ⟨j, u, rfl, e⟩ | ⟨y, u, rfl, e⟩
      · exact nomatch e
      · injection e with e1 _; rw [e1]
  byValue := fun k v h => by
    rcases keyIs_shape h with ⟨i, t, rfl, rfl⟩ | ⟨x, t, rfl, rfl⟩ <;> rfl
  pyHash := fun hv h => by
    rcases keyIs_shape hv with ⟨i, t, rfl, rfl⟩ | ⟨x, t, rfl, rfl⟩
    · exact wpAny_pyHash_int h
    · exact wpAny_pyHash_str h
  eqBool := fun hu hv h => by
    rcases keyIs_shape hu with ⟨i, t, rfl, rfl⟩ | ⟨x, t, rfl, rfl⟩
    · rcases keyIs_shape hv with ⟨j, u, rfl, rfl⟩ | ⟨y, u, rfl, rfl⟩
      · rw [key_ll] at h; exact wpAny_eqBool_int h
      · rw [key_lr] at h; exact SeqAt.EqAt.int_str i t y u _ _ _ _ h
    · rcases keyIs_shape hv with ⟨j, u, rfl, rfl⟩ | ⟨y, u, rfl, rfl⟩
      · rw [key_rl] at h; exact SeqAt.EqAt.str_int x t j u _ _ _ _ h
      · rw [key_rr] at h; exact wpAny_eqBool_str h
  «strs» := fun k x t v h => by
    rcases keyIs_shape h with ⟨i, u, rfl, e⟩ | ⟨y, u, rfl, e⟩
    · exact nomatch e
    · injection e with e1 _
      subst e1
      cases v <;> rfl
end L2
namespace L2
open PySem PySem.Spec PyProof.Rows
inductive V where
  | non | bl (b : Bool) | int (i : Int) | str (x : Str) | byt (b : Array UInt8) | flt (b : UInt64) | ref (a : Addr) | ty (n : String)
  deriving DecidableEq
def RelV : V → Value → Prop
  | .non, u => u = Value.none
  | .bl b, u => u = Value.bool b
  | .int i, u => ∃ t, u = Value.int i t
  | .str x, u => ∃ t, u = Value.str x t
  | .byt b, u => ∃ t, u = Value.bytes b t
  | .flt b, u => ∃ t, u = Value.float b t
  | .ref a, u => u = Value.ref a
  | .ty n, u => u = Value.type n
abbrev Vals : List V → List Value → Prop := Paired RelV
theorem Vals.length {xs : List V} {us : List Value} (r : Vals xs us) : xs.length = us.length := Paired.length r
theorem Vals.get : ∀ {xs : List V} {us : List Value} {i : Nat} {x : V}, Vals xs us → xs[i]? = some x → ∃ u, us[i]? = some u ∧ RelV x u
  | _, _, _, _, .nil, e => by simp at e
  | _, _, 0, _, .cons r _, e => by simp at e; subst e; exact ⟨_, rfl, r⟩
  | _, _, i + 1, x, .cons _ t, e => by
    obtain ⟨u, h1, h2⟩ := Vals.get (i := i) (x := x) t (by simpa using e)
    exact ⟨u, by simpa using h1, h2⟩
theorem Vals.set {x : V} {u : Value} (r : RelV x u) : ∀ {xs : List V} {us : List Value} (i : Nat), Vals xs us → Vals (xs.set i x) (us.set i u)
  | _, _, _, .nil => .nil
  | _, _, 0, .cons _ t => .cons r t
  | _, _, i + 1, .cons q t => .cons q (Vals.set r i t)
theorem Vals.append : ∀ {xs ys : List V} {us ws : List Value}, Vals xs us → Vals ys ws → Vals (xs ++ ys) (us ++ ws)
  | _, _, _, _, .nil, s => s
  | _, _, _, _, .cons r t, s => .cons r (Vals.append t s)
theorem Vals.take : ∀ {xs : List V} {us : List Value} (n : Nat), Vals xs us → Vals (xs.take n) (us.take n)
  | _, _, 0, _ => .nil
  | _, _, _ + 1, .nil => .nil
  | _, _, n + 1, .cons r t => .cons r (Vals.take n t)
theorem Vals.drop : ∀ {xs : List V} {us : List Value} (n : Nat), Vals xs us → Vals (xs.drop n) (us.drop n)
  | _, _, 0, r => r
  | _, _, _ + 1, .nil => .nil
  | _, _, n + 1, .cons _ t => Vals.drop n t
def RelO : Option V → Option Value → Prop
  | some v, some u => RelV v u
  | none, none => True
  | _, _ => False
def KV {κ : Type} : List (κ × V) → List (κ × Value) → Prop := Paired fun (p : κ × V) (q : κ × Value) => p.1 = q.1 ∧ RelV p.2 q.2
def kV : Key → V
  | .inl i => .int i
  | .inr x => .str x
inductive HO where
    | lst (xs : List V)
    | tup (xs : List V)
    | dK (kvs : List (Key × V)) | dT (kvs : List (List Key × V))
    | set (S : Int → Bool) (n : Nat)
    | ins (C dx : Addr) (fs : List (Str × V))
    | own (x : Addr)
    | xd (fs : List (Str × V))
    | met (f x : Addr)
    | rng (lo hi : Int)
    | frz (o : Obj) (u : HO)
    | tbl (ps : Array Value)
    | ext (φ : Heap → Prop)
abbrev Hp := Addr → Option HO
def upd (H : Hp) (a : Addr) (o : HO) : Hp := fun b => if b = a then some o else H b
theorem upd_same {H : Hp} {a : Addr} {o : HO} : upd H a o a = some o := by unfold upd; rw [if_pos rfl]
theorem upd_ne {H : Hp} {a b : Addr} {o : HO} (h : b ≠ a) : upd H a o b = H b := by unfold upd; rw [if_neg h]
theorem upd_upd {H : Hp} {a : Addr} {o u : HO} : upd (upd H a o) a u = upd H a u := by
  funext b; unfold upd; split <;> rfl
theorem ne_of {H : Hp} {a b : Addr} {o u : HO} (h : H a = some o) (h' : H b = some u) (d : o ≠ u) : a ≠ b := by
  intro e; subst e; rw [h] at h'; exact d (Option.some.inj h')
theorem ne_of_none {H : Hp} {a b : Addr} {o : HO} (h : H a = some o) (h' : H b = none) : a ≠ b := by
  intro e; subst e; rw [h] at h'; cases h'
section
variable (P : Program) (w : World)
def ObjOk (H : Hp) (h : Heap) (a : Addr) : HO → Prop
  | .lst xs => xs.length ≤ sizeLine ∧ ∃ (its : List Value) (n : Nat), Vals xs its ∧ h.get? a = some { cls := .type "list", data := .seq its.toArray n }
  | .tup xs => xs.length ≤ sizeLine ∧ ∃ its : List Value, Vals xs its ∧ IsTup h a its.toArray
  | .dK kvs => kvs.length ≤ sizeLine ∧ (a == sysModules) = false ∧ ∃ vs, KV kvs vs ∧ h.DictOf (mixKind P w) a vs
  | .dT kvs => kvs.length ≤ sizeLine ∧ (a == sysModules) = false ∧ ∃ xs : List (List Key × Addr × Value),
      Paired (fun (p : List Key × V) (q : List Key × Addr × Value) => p.1 = q.1 ∧ H q.2.1 = some (.tup (p.1.map kV)) ∧ RelV p.2 q.2.2) kvs xs ∧
      ∃ o es ep, h.get? a = some o ∧ o.ExactDict ∧ o.data = .dict es ep ∧ es.toList = xs.map (entryOfKey (tupleKind (mixKind P w))) ∧ (xs.map (·.1)).Nodup
  | .set S n => h.SetOf (intKind P w) a S n
  | .ins C dx fs => H dx = some (.own a) ∧ fs.length ≤ 1000 ∧ dx ≠ a ∧ h.get? a = some (PySem.W.instObj C dx) ∧
      ∃ mA, h.Ns1 dx mA ∧ (∀ f, RelO (fs.lookup f) (mA f)) ∧ PySem.Within mA (fs.map (·.1))
  | .own _ => ∃ o, h.get? a = some o
  | .xd fs => ∃ mA, h.Ns1 a mA ∧ ∀ f, RelO (fs.lookup f) (mA f)
  | .rng lo hi => ∃ t u v, h.get? a = some { cls := .type "range", data := .fields #[.int lo t, .int hi u, .int 1 v] }
  | .frz o u => h.get? a = some o ∧ ObjOk H h a u
  | .tbl ps => h.get? a = some { cls := .none, data := .fields ps }
  | .met f x => h.get? a = some (PySem.W.methodObj (.ref f) (.ref x))
  | .ext φ => φ h ∧ (∃ o, h.get? a = some o) ∧ ∀ h1 h2 : Heap, φ h1 → (∀ o, h1.get? a = some o → h2.get? a = some o) → φ h2
def HOk (H : Hp) (h : Heap) : Prop := ∀ a o, H a = some o → ObjOk P w H h a o
end
section
variable {P : Program} {w : World} {H H' : Hp} {h h' : Heap} {a : Addr} {o : HO}
theorem ObjOk.lt (x : ObjOk P w H h a o) : a < h.objs.size := by
  cases o with
  | lst xs => obtain ⟨_, _, _, _, e⟩ := x; exact Heap.lt_size e
  | tup xs => obtain ⟨_, _, _, p⟩ := x; exact p.lt
  | dK kvs => obtain ⟨_, _, _, _, o, _, _, e, _⟩ := x; exact Heap.lt_size e
  | dT kvs => obtain ⟨_, _, _, _, o, _, _, e, _⟩ := x; exact Heap.lt_size e
  | set S n => obtain ⟨o, _, _, _, e, _⟩ := x; exact Heap.lt_size e
  | ins C dx fs => obtain ⟨_, _, _, e, _⟩ := x; exact Heap.lt_size e
  | own y => obtain ⟨_, e⟩ := x; exact Heap.lt_size e
  | xd fs => obtain ⟨_, ⟨_, _, _, e, _⟩, _⟩ := x; exact Heap.lt_size e
  | rng lo hi => obtain ⟨_, _, _, e⟩ := x; exact Heap.lt_size e
  | frz ob u => obtain ⟨e, _⟩ := x; exact Heap.lt_size e
  | tbl ps => exact Heap.lt_size (show h.get? a = some _ from x)
  | met f y => exact Heap.lt_size (show h.get? a = some _ from x)
  | ext φ => obtain ⟨_, ⟨_, e⟩, _⟩ := x; exact Heap.lt_size e
theorem Paired.mapP {α β : Type} {F G : α → β → Prop} : ∀ {l₁ : List α} {l₂ : List β}, Paired F l₁ l₂ → (∀ a b, F a b → G a b) → Paired G l₁ l₂
  | _, _, .nil, _ => .nil
  | _, _, .cons r t, f => .cons (f _ _ r) (Paired.mapP t f)
theorem ObjOk.stay (x : ObjOk P w H h a o) (k : ∀ b u, (b = a ∨ H b = some (.own a)) → h.get? b = some u → h'.get? b = some u)
    (ho : ∀ b, H b = some (.own a) → H' b = some (.own a)) (ht : ∀ b xs, H b = some (.tup xs) → H' b = some (.tup xs)) : ObjOk P w H' h' a o := by
  induction o with
  | lst xs => obtain ⟨z, its, n, r, e⟩ := x; exact ⟨z, its, n, r, k _ _ (.inl rfl) e⟩
  | tup xs => obtain ⟨z, its, r, ob, e, c⟩ := x; exact ⟨z, its, r, ob, k _ _ (.inl rfl) e, c⟩
  | dK kvs => obtain ⟨z, y, vs, r, ob, es, ep, e, c⟩ := x; exact ⟨z, y, vs, r, ob, es, ep, k _ _ (.inl rfl) e, c⟩
  | dT kvs =>
    obtain ⟨z, y, xs, r, ob, es, ep, e, c⟩ := x
    exact ⟨z, y, xs, Paired.mapP r fun p q z => ⟨z.1, ht _ _ z.2.1, z.2.2⟩, ob, es, ep, k _ _ (.inl rfl) e, c⟩
  | set S n => obtain ⟨ob, es, ep, t, e, c⟩ := x; exact ⟨ob, es, ep, t, k _ _ (.inl rfl) e, c⟩
  | ins C dx fs =>
    obtain ⟨d, z, ne, e, mA, ⟨od, es, ep, e2, c⟩, r⟩ := x
    exact ⟨ho _ d, z, ne, k _ _ (.inl rfl) e, mA, ⟨od, es, ep, k _ _ (.inr d) e2, c⟩, r⟩
  | own y => obtain ⟨ob, e⟩ := x; exact ⟨ob, k _ _ (.inl rfl) e⟩
  | xd fs => obtain ⟨mA, ⟨od, es, ep, e, c⟩, r⟩ := x; exact ⟨mA, ⟨od, es, ep, k _ _ (.inl rfl) e, c⟩, r⟩
  | rng lo hi => obtain ⟨t, u, v, e⟩ := x; exact ⟨t, u, v, k _ _ (.inl rfl) e⟩
  | frz ob u ih => obtain ⟨e, q⟩ := x; exact ⟨k _ _ (.inl rfl) e, ih q⟩
  | tbl ps =>
    have e : h.get? a = some { cls := .none, data := .fields ps } := x
    show h'.get? a = some { cls := .none, data := .fields ps }
    exact k a _ (.inl rfl) e
  | met f y =>
    have e : h.get? a = some (PySem.W.methodObj (.ref f) (.ref y)) := x
    show h'.get? a = some (PySem.W.methodObj (.ref f) (.ref y))
    exact k a _ (.inl rfl) e
  | ext φ => obtain ⟨p, ⟨o, e⟩, st⟩ := x; exact ⟨st _ _ p fun o q => k _ _ (.inl rfl) q, ⟨o, k _ _ (.inl rfl) e⟩, st⟩
theorem HOk.lt (x : HOk P w H h) (e : H a = some o) : a < h.objs.size := (x a o e).lt
theorem HOk.fresh (x : HOk P w H h) (e : h.objs.size ≤ a) : H a = none := by
  cases q : H a with
  | none => rfl
  | some u => exact absurd (Nat.lt_of_lt_of_le (x.lt q) e) (Nat.lt_irrefl _)
theorem HOk.kept (x : HOk P w H h) (k : ∀ b u, h.get? b = some u → h'.get? b = some u) : HOk P w H h' := fun a o e =>
  (x a o e).stay (fun b u _ q => k b u q) (fun _ q => q) fun _ _ q => q
theorem HOk.laid (x : HOk P w H h) (k : ∀ b u, h.get? b = some u → h'.get? b = some u) (hp : h.objs.size ≤ a) (new : ObjOk P w (upd H a o) h' a o) : HOk P w (upd H a o) h' := fun b u e => by
  have hn := x.fresh hp
  by_cases hb : b = a
  · subst hb; rw [upd_same] at e; cases e; exact new
  · rw [upd_ne hb] at e
    exact (x b u e).stay (fun c v _ q => k c v q) (fun c q => by rw [upd_ne (ne_of_none q hn)]; exact q) fun c xs q => by rw [upd_ne (ne_of_none q hn)]; exact q
end
def Rd (H : Hp) (a : Addr) (u : HO) : Prop := H a = some u ∨ ∃ o, H a = some (.frz o u)
theorem Rd.ok {P : Program} {w : World} {H : Hp} {h : Heap} {a : Addr} {u : HO} (r : Rd H a u) (x : HOk P w H h) : ObjOk P w H h a u := by
  rcases r with r | ⟨o, r⟩
  · exact x a u r
  · obtain ⟨_, q⟩ := x a _ r
    exact q
def Mut : Option HO → Prop
  | some (.lst _) => True
  | some (.dK _) => True
  | some (.dT _) => True
  | some (.set _ _) => True
  | some (.ins _ _ _) => True
  | some (.ext _) => True
  | _ => False
section
variable {P : Program} {w : World} {H : Hp} {h h' : Heap} {x e : Addr} {o' : HO}
theorem HOk.write (ok : HOk P w H h) (mu : Mut (H x)) (he : e = x ∨ H e = some (.own x)) (k : ∀ b u, b ≠ e → h.get? b = some u → h'.get? b = some u) (heo : ∃ u, h'.get? e = some u)
    (new : ObjOk P w (upd H x o') h' x o') : HOk P w (upd H x o') h' := fun b u q => by
  have nown : ∀ c y, H c = some (.own y) → c ≠ x := fun c y r z => by subst z; rw [r] at mu; exact mu
  have ntup : ∀ c xs, H c = some (.tup xs) → c ≠ x := fun c xs r z => by subst z; rw [r] at mu; exact mu
  by_cases hb : b = x
  · subst hb; rw [upd_same] at q; cases q; exact new
  · rw [upd_ne hb] at q
    by_cases hbe : b = e
    · have q' : H b = some (.own x) := by
        rcases he with z | z
        · exact absurd (hbe.trans z) hb
        · rw [hbe]; exact z
      rw [q] at q'; cases q'
      obtain ⟨v, hv⟩ := heo
      exact ⟨v, by rw [hbe]; exact hv⟩
    · refine (ok b u q).stay (fun c v hc r => k c v ?_ r) (fun c r => by rw [upd_ne (nown c b r)]; exact r) fun c xs r => by rw [upd_ne (ntup c xs r)]; exact r
      rcases hc with rfl | hc
      · exact hbe
      · rintro rfl
        rcases he with z | z
        · exact nown c b hc z
        · rw [hc] at z; cases z; exact hb rfl
end
structure Un (fs ex : List Addr) (H H' : Hp) (h h' : Heap) : Prop where
  keep : ∀ b o, h.get? b = some o → H b = none → b ∉ fs → b ∉ ex → h'.get? b = some o
  slot : ∀ b o, h.get? b = some o → H b = none → b ∈ fs → b ∉ ex → ∃ sl, h'.get? b = some { o with slots := sl }
  free : ∀ b o, h.get? b = some o → H b = none → b ∉ ex → H' b = none
  there : ∀ b o, h.get? b = some o → b ∉ ex → ∃ o', h'.get? b = some o'
  tups : ∀ b xs, H b = some (.tup xs) → H' b = some (.tup xs)
  frzs : ∀ b o u, H b = some (.frz o u) → H' b = some (.frz o u)
  tbls : ∀ b ps, H b = some (.tbl ps) → ∃ more, H' b = some (.tbl (ps ++ more))
section
variable {fs fs' ex ex' : List Addr} {H H1 H2 : Hp} {h h1 h2 h' : Heap} {a x e : Addr} {o : HO}
theorem Un.any (u : Un fs ex H H1 h h1) {b : Addr} {ob : Obj} (q : h.get? b = some ob) (n : H b = none) (hx : b ∉ ex) : ∃ sl, h1.get? b = some { ob with slots := sl } := by
  by_cases hb : b ∈ fs
  · exact u.slot b ob q n hb hx
  · exact ⟨ob.slots, u.keep b ob q n hb hx⟩
theorem Un.kept (k : ∀ b u, h.get? b = some u → h'.get? b = some u) : Un fs ex H H h h' :=
  ⟨fun b ob q _ _ _ => k b ob q, fun b ob q _ _ _ => ⟨ob.slots, k b ob q⟩, fun _ _ _ n _ => n, fun b ob q _ => ⟨ob, k b ob q⟩, fun _ _ q => q, fun _ _ _ q => q, fun _ ps q => ⟨#[], by rw [q]; simp⟩⟩
theorem Un.refl : Un fs ex H H h h := Un.kept fun _ _ q => q
theorem Un.laid (k : ∀ b u, h.get? b = some u → h'.get? b = some u) (hp : h.objs.size ≤ a) (hn : H a = none) : Un fs ex H (upd H a o) h h' where
  keep := fun b u q _ _ _ => k b u q
  slot := fun b u q _ _ _ => ⟨u.slots, k b u q⟩
  free := fun b u q n _ => by rw [upd_ne (Nat.ne_of_lt (Nat.lt_of_lt_of_le (Heap.lt_size q) hp))]; exact n
  there := fun b u q _ => ⟨u, k b u q⟩
  tups := fun b xs q => by rw [upd_ne (ne_of_none q hn)]; exact q
  frzs := fun b u xs q => by rw [upd_ne (ne_of_none q hn)]; exact q
  tbls := fun b ps q => ⟨#[], by rw [upd_ne (ne_of_none q hn), q]; simp⟩
theorem Un.write (mu : Mut (H x)) (he : e = x ∨ H e = some (.own x)) (k : ∀ b u, b ≠ e → h.get? b = some u → h'.get? b = some u) (heo : ∃ u, h'.get? e = some u) : Un fs ex H (upd H x o) h h' := by
  have hx : ∀ b, H b = none → b ≠ x := fun b n z => by subst z; rw [n] at mu; exact mu
  have hb : ∀ b, H b = none → b ≠ e := fun b n z => by
    subst z
    rcases he with r | r
    · exact hx b n r
    · rw [n] at r; cases r
  have hm : ∀ b u, H b = some u → ¬ Mut (some u) → b ≠ x := fun b u q nm z => by subst z; rw [q] at mu; exact nm mu
  refine ⟨fun b u q n _ _ => k b u (hb b n) q, fun b u q n _ _ => ⟨u.slots, k b u (hb b n) q⟩, fun b u q n _ => by rw [upd_ne (hx b n)]; exact n, fun b u q _ => ?_,
    fun b xs q => by rw [upd_ne (hm b _ q fun z => z)]; exact q, fun b u xs q => by rw [upd_ne (hm b _ q fun z => z)]; exact q, fun b ps q => ⟨#[], by rw [upd_ne (hm b _ q fun z => z), q]; simp⟩⟩
  by_cases hbe : b = e
  · subst hbe; exact heo
  · exact ⟨u, k b u hbe q⟩
end
def trk (h : Heap) (H : Hp) : List Addr := (List.range h.objs.size).filter fun a => (H a).isSome
def hidT (h : Heap) (H : Hp) : Heap := PySem.W.hideAll h (trk h H)
theorem hidT_size (h : Heap) (H : Hp) : (hidT h H).objs.size = h.objs.size := PySem.W.hideAll_size _ _
theorem hidT_get {h : Heap} {H : Hp} {b : Addr} {o : Obj} (e : h.get? b = some o) (n : H b = none) : (hidT h H).get? b = some o :=
  PySem.W.hideAll_get _ e fun hm => by
    have q : (H b).isSome = true := (List.mem_filter.mp hm).2
    rw [n] at q; simp at q
theorem of_hidT {h : Heap} {H : Hp} {b : Addr} {o : Obj} (e : (hidT h H).get? b = some o) : h.get? b = some o ∧ H b = none := by
  have e' : h.get? b = some o := PySem.W.of_hideAll (trk h H) e
  refine ⟨e', ?_⟩
  cases q : H b with
  | none => rfl
  | some x =>
    have hm : b ∈ trk h H := List.mem_filter.mpr ⟨List.mem_range.mpr (Heap.lt_size e'), by simp [q]⟩
    have z : (hidT h H).get? b = none := PySem.W.hideAll_none (trk h H) hm
    rw [z] at e; cases e
end L2
namespace L2
open PySem PySem.Spec PyProof.Rows
structure Mod (K : PySem.W.Frag) (mg : Str → Option Value) (base : Heap) : Prop where
  kin : K.In base
  glob : base.Ns mainGlobals mg
  blt : ∃ mb, base.Ns builtinsNs mb ∧ ∀ x : Str, x ≠ "__name__" → mb x = bootBuiltins x
  nolimit : base.NoLimit
structure Cx where
  prog : Program
  w : World
  K : PySem.W.Frag
  mg : Str → Option Value
  base : Heap
  A : Around
  N : List Str
  s_0 : Shared
  H_0 : Hp
  env : Env
  outer : List Env
  stack : List Env
  ex : List Addr
  fn : Str → Bool
  calm : Bool
  pn : List (Addr × Obj)
  xe : Value → Shared → Prop
def frs (l : List Env) : List Addr := l.filterMap (·.frame)
abbrev Cx.fs (X : Cx) : List Addr := frs X.outer
def Vis (sc : Scope) (x : Str) : Prop := sc.names.lookup x = some .local ∨ sc.names.lookup x = some .cell ∨ sc.names.lookup x = some .free
def Loc (sc : Scope) (x : Str) : Prop := sc.names.lookup x = some .local ∨ sc.names.lookup x = some .cell
def Look (env : Env) (h : Heap) (m : Str → Option Value) (x : Str) (u : Value) : Prop :=
  (env.kindOf x = some .local ∧ m x = some u) ∨ ((env.kindOf x = some .cell ∨ env.kindOf x = some .free) ∧ ∃ c, env.cells.lookup x = some c ∧ h.IsCell c (some u))
structure Cx.Ok (X : Cx) : Prop where
  mod : Mod X.K X.mg X.base
  kind : X.env.scope.kind = .function
  glob : X.env.globals = mainGlobals
  blt : X.env.builtins = builtinsNs
  above : X.s_0.heap.objs.size ≤ X.env.locals
  inj : ∀ x y c, X.env.cells.lookup x = some c → X.env.cells.lookup y = some c → x = y
  has : ∀ x, (X.env.kindOf x = some .cell ∨ X.env.kindOf x = some .free) → ∃ c, X.env.cells.lookup x = some c
  cab : ∀ x c, X.fn x = true → X.env.cells.lookup x = some c → X.s_0.heap.objs.size ≤ c
  hd : X.calm = true → X.A.handled = none
  frames : X.A.frames = some X.stack
  stk : X.stack = X.outer ∨ (X.stack = X.env :: X.outer ∧ X.env.frame = some X.env.locals)
  exf : ∀ b ∈ X.ex, b ≠ X.env.locals ∧ ∀ x c, X.env.cells.lookup x = some c → c ≠ b
  bs : ∀ b o, X.base.get? b = some o → X.s_0.heap.get? b = some o ∧ X.H_0 b = none
  bsz : X.base.objs.size ≤ X.s_0.heap.objs.size
  noex : ∀ b o, X.base.get? b = some o → b ∉ X.ex
  exfs : ∀ b ∈ X.ex, b ∉ X.fs
  funs : X.s_0.heap.FunFrames X.base X.outer
  frf : ∀ b ∈ X.fs, X.H_0 b = none
structure Inv (X : Cx) (pins : List (Addr × Obj)) (σ : List (Option V)) (H : Hp) (s : Shared) : Prop where
  ok : X.Ok
  os : s.os = X.s_0.os
  bare : AllBare s.gens
  base : Un X.fs X.ex X.H_0 H X.s_0.heap s.heap
  loc : ∃ m, s.heap.Ns X.env.locals m ∧ ∀ (i : Nat) (x : Str) (v : V), X.N[i]? = some x → σ[i]? = some (some v) → Vis X.env.scope x → ∃ u, RelV v u ∧ Look X.env s.heap m x u
  cell : ∀ x c, X.env.cells.lookup x = some c → ∃ v, s.heap.IsCell c v
  free : H X.env.locals = none
  freeC : ∀ x c, X.env.cells.lookup x = some c → H c = none
  pin : ∀ p ∈ X.pn ++ pins, s.heap.get? p.1 = some p.2 ∧ H p.1 = none ∧ p.1 ≠ X.env.locals ∧ p.1 ∉ X.fs ∧ ∀ v, p.2.data ≠ .cell v
  hok : HOk X.prog X.w H s.heap
  len : σ.length = X.N.length
section
variable {X : Cx} {pins : List (Addr × Obj)} {σ : List (Option V)} {H H' : Hp} {s : Shared} {h' : Heap}
theorem Cx.Ok.nofr (ok : X.Ok) {b : Addr} {o : Obj} (e : X.base.get? b = some o) : b ∉ X.fs := fun hb => by
  have := (ok.funs.mem hb).1
  rw [e] at this; cases this
theorem Inv.bs (I : Inv X pins σ H s) : ∀ b o, X.base.get? b = some o → s.heap.get? b = some o ∧ H b = none := fun b o e =>
  ⟨I.base.keep b o (I.ok.bs b o e).1 (I.ok.bs b o e).2 (I.ok.nofr e) (I.ok.noex b o e), I.base.free b o (I.ok.bs b o e).1 (I.ok.bs b o e).2 (I.ok.noex b o e)⟩
theorem Inv.bk (I : Inv X pins σ H s) : ∀ b o, X.base.get? b = some o → s.heap.get? b = some o := fun b o e => (I.bs b o e).1
theorem Inv.mod (I : Inv X pins σ H s) : Mod X.K X.mg X.base := I.ok.mod
theorem Inv.kIn (I : Inv X pins σ H s) : X.K.In s.heap := I.ok.mod.kin.keeps I.bk
theorem Inv.lt (I : Inv X pins σ H s) : X.env.locals < s.heap.objs.size := let ⟨_, hn, _⟩ := I.loc; hn.lt
theorem Inv.sz (I : Inv X pins σ H s) : X.s_0.heap.objs.size ≤ s.heap.objs.size := Nat.le_trans I.ok.above (Nat.le_of_lt I.lt)
theorem Inv.nofs (I : Inv X pins σ H s) {a : Addr} (h : s.heap.objs.size ≤ a) : a ∉ X.fs := fun hb => by
  obtain ⟨_, o, ho, _⟩ := I.ok.funs.mem hb
  exact absurd (Nat.lt_of_lt_of_le (Heap.lt_size ho) (Nat.le_trans I.sz h)) (Nat.lt_irrefl _)
theorem Inv.cne (I : Inv X pins σ H s) : ∀ x c, X.env.cells.lookup x = some c → c ≠ X.env.locals := fun x c e z => by
  obtain ⟨v, o, ho, hd⟩ := I.cell x c e
  obtain ⟨m, ⟨o', es, ep, ho', hd', _⟩, _⟩ := I.loc
  rw [z, ho'] at ho; cases ho; rw [hd'] at hd; cases hd
theorem Inv.funs (I : Inv X pins σ H s) : s.heap.FunFrames X.base X.outer := by
  have all : ∀ (l : List Env), (∀ b ∈ frs l, b ∈ X.fs) → X.s_0.heap.FunFrames X.base l → s.heap.FunFrames X.base l := by
    intro l
    induction l with
    | nil => intro _ _; trivial
    | cons env r ih =>
      intro hs hl
      obtain ⟨hk, ⟨L, o, hf, hn, ho, hd⟩, hr⟩ := hl
      have hL : L ∈ X.fs := hs L (by unfold frs; rw [List.filterMap_cons, hf]; exact List.mem_cons_self)
      obtain ⟨sl, e⟩ := I.base.slot L o ho (I.ok.frf L hL) hL fun z => I.ok.exfs L z hL
      exact ⟨hk, ⟨L, _, hf, hn, e, hd⟩, ih (fun b hb => hs b (by unfold frs; rw [List.filterMap_cons, hf]; exact List.mem_cons_of_mem _ hb)) hr⟩
  exact all X.outer (fun _ hb => hb) I.ok.funs
theorem Inv.stack (I : Inv X pins σ H s) : s.heap.FunFrames X.base X.stack := by
  rcases I.ok.stk with e | ⟨e, hf⟩
  · rw [e]; exact I.funs
  · rw [e]
    obtain ⟨m, hn, _⟩ := I.loc
    refine .cons (by rw [I.ok.kind]; decide) hf hn ?_ I.funs
    exact Heap.get?_none_of_le (Nat.le_trans I.ok.bsz I.ok.above)
theorem Inv.stkSub (I : Inv X pins σ H s) : ∀ b ∈ frs X.stack, b ∈ X.env.locals :: X.fs := fun b hb => by
  rcases I.ok.stk with e | ⟨e, hf⟩
  · rw [e] at hb; exact List.mem_cons_of_mem _ hb
  · rw [e] at hb
    unfold frs at hb
    rw [List.filterMap_cons, hf] at hb
    exact hb
theorem Inv.stkFree (I : Inv X pins σ H s) : ∀ b ∈ frs X.stack, H b = none := fun b hb => by
  rcases List.mem_cons.mp (I.stkSub b hb) with e | hb
  · rw [e]; exact I.free
  · obtain ⟨_, o, ho, _⟩ := I.ok.funs.mem hb
    exact I.base.free b o ho (I.ok.frf b hb) fun z => I.ok.exfs b z hb
theorem Inv.step {g' : Array GenState} {t' : Nat} {d' : Drawn} {ch : List Addr} (I : Inv X pins σ H s)
    (hch : ∀ b ∈ ch, (b ∈ X.ex ∨ X.s_0.heap.objs.size ≤ b) ∧ b ≠ X.env.locals ∧ (∀ x c, X.env.cells.lookup x = some c → c ≠ b) ∧ ∀ p ∈ X.pn ++ pins, p.1 ≠ b)
    (keep : ∀ b o, b ≠ X.env.locals → b ∉ X.fs → b ∉ ch → s.heap.get? b = some o → H b = none → h'.get? b = some o)
    (slot : ∀ b o, b ≠ X.env.locals → b ∈ X.fs → b ∉ ch → s.heap.get? b = some o → H b = none → ∃ sl, h'.get? b = some { o with slots := sl }) (free : ∀ b o, b ∉ ch → s.heap.get? b = some o → H b = none → H' b = none)
    (there : ∀ b o, b ∉ ch → s.heap.get? b = some o → ∃ o', h'.get? b = some o')
    (tups : ∀ b xs, H b = some (.tup xs) → H' b = some (.tup xs)) (frzs : ∀ b o u, H b = some (.frz o u) → H' b = some (.frz o u)) (tbls : ∀ b ps, H b = some (.tbl ps) → ∃ more, H' b = some (.tbl (ps ++ more)))
    (ns : ∀ m, s.heap.Ns X.env.locals m → h'.Ns X.env.locals m) (hok : HOk X.prog X.w H' h') (hg : AllBare g') :
    Inv X pins σ H' { s with heap := h', gens := g', drawn := d', toks := t' } := by
  have neL : ∀ b o, X.s_0.heap.get? b = some o → b ≠ X.env.locals := fun b o e => Nat.ne_of_lt (Nat.lt_of_lt_of_le (Heap.lt_size e) I.ok.above)
  have neC : ∀ b o, X.s_0.heap.get? b = some o → b ∉ X.ex → b ∉ ch := fun b o e hx hb => by
    rcases (hch b hb).1 with z | z
    · exact hx z
    · exact absurd (Nat.lt_of_lt_of_le (Heap.lt_size e) z) (Nat.lt_irrefl _)
  have cellK : ∀ x c, X.env.cells.lookup x = some c → ∀ v, s.heap.IsCell c v → h'.IsCell c v := fun x c e v ⟨o, ho, hd⟩ => by
    have nch : c ∉ ch := fun z => (hch c z).2.2.1 x c e rfl
    by_cases hc : c ∈ X.fs
    · obtain ⟨sl, q⟩ := slot c o (I.cne x c e) hc nch ho (I.freeC x c e)
      exact ⟨_, q, hd⟩
    · exact ⟨o, keep c o (I.cne x c e) hc nch ho (I.freeC x c e), hd⟩
  refine ⟨I.ok, I.os, hg, ⟨fun b o e n hb hx => ?_, fun b o e n hb hx => ?_, fun b o e n hx => ?_, fun b o e hx => ?_, fun b xs e => tups b xs (I.base.tups b xs e), fun b o xs e => frzs b o xs (I.base.frzs b o xs e), fun b ps e => ?_⟩, ?_, fun x c e => ?_, ?_, fun x c e => ?_, fun p hp => ?_, hok, I.len⟩
  · exact keep b o (neL b o e) hb (neC b o e hx) (I.base.keep b o e n hb hx) (I.base.free b o e n hx)
  · obtain ⟨sl, e1⟩ := I.base.slot b o e n hb hx
    obtain ⟨sl', e2⟩ := slot b _ (neL b o e) hb (neC b o e hx) e1 (I.base.free b o e n hx)
    exact ⟨sl', e2⟩
  · obtain ⟨o', e1⟩ := I.base.there b o e hx
    exact free b o' (neC b o e hx) e1 (I.base.free b o e n hx)
  · obtain ⟨o', e1⟩ := I.base.there b o e hx
    exact there b o' (neC b o e hx) e1
  · obtain ⟨m1, e1⟩ := I.base.tbls b ps e
    obtain ⟨m2, e2⟩ := tbls b _ e1
    exact ⟨m1 ++ m2, by rw [e2, Array.append_assoc]⟩
  · obtain ⟨m, hn, hl⟩ := I.loc
    refine ⟨m, ns m hn, fun i x v e1 e2 e3 => ?_⟩
    obtain ⟨u, r, l⟩ := hl i x v e1 e2 e3
    refine ⟨u, r, ?_⟩
    rcases l with l | ⟨k, c, e, z⟩
    · exact .inl l
    · exact .inr ⟨k, c, e, cellK x c e _ z⟩
  · obtain ⟨v, z⟩ := I.cell x c e
    exact ⟨v, cellK x c e v z⟩
  · obtain ⟨m, ⟨o, _, _, ho, _⟩, _⟩ := I.loc
    exact free _ o (fun z => (hch _ z).2.1 rfl) ho I.free
  · obtain ⟨v, o, ho, hd⟩ := I.cell x c e
    exact free c o (fun z => (hch c z).2.2.1 x c e rfl) ho (I.freeC x c e)
  · obtain ⟨e, n, ne, nf, d⟩ := I.pin p hp
    have nch : p.1 ∉ ch := fun z => (hch p.1 z).2.2.2 p hp rfl
    exact ⟨keep p.1 p.2 ne nf nch e n, free p.1 p.2 nch e n, ne, nf, d⟩
theorem Inv.un {t' : Nat} (I : Inv X pins σ H s) (u : Un X.fs [] H H' s.heap h') (hok : HOk X.prog X.w H' h') : Inv X pins σ H' { s with heap := h', toks := t' } := by
  obtain ⟨m, ⟨o, es, ep, ho, r⟩, _⟩ := id I.loc
  obtain ⟨sl, hL⟩ := u.any ho I.free (by simp)
  exact I.step (g' := s.gens) (d' := s.drawn) (ch := []) (fun _ z => nomatch z) (fun b o _ hb _ e n => u.keep b o e n hb (by simp)) (fun b o _ hb _ e n => u.slot b o e n hb (by simp)) (fun b o _ e n => u.free b o e n (by simp)) (fun b o _ e => u.there b o e (by simp)) u.tups u.frzs u.tbls (fun m' hm => by
    obtain ⟨o', es', ep', ho', r'⟩ := hm
    rw [ho] at ho'; cases ho'
    exact ⟨_, es', ep', hL, r'⟩) hok I.bare
theorem Inv.call {g' : Array GenState} {t' : Nat} {d' : Drawn} {ch : List Addr} (I : Inv X pins σ H s) (u : Un (frs X.stack) ch H H' s.heap h') (hok : HOk X.prog X.w H' h') (hg : AllBare g')
    (hch : ∀ b ∈ ch, (b ∈ X.ex ∨ X.s_0.heap.objs.size ≤ b) ∧ b ≠ X.env.locals ∧ (∀ x c, X.env.cells.lookup x = some c → c ≠ b) ∧ ∀ p ∈ X.pn ++ pins, p.1 ≠ b) :
    Inv X pins σ H' { s with heap := h', gens := g', drawn := d', toks := t' } := by
  obtain ⟨m, ⟨o, es, ep, ho, r⟩, _⟩ := id I.loc
  obtain ⟨sl, hL⟩ := u.any ho I.free fun z => (hch _ z).2.1 rfl
  exact I.step (ch := ch) hch (fun b o hL hb hc e n => u.keep b o e n (fun z => (List.mem_cons.mp (I.stkSub b z)).elim hL hb) hc) (fun b o _ _ hc e n => u.any e n hc) (fun b o hc e n => u.free b o e n hc) (fun b o hc e => u.there b o e hc) u.tups u.frzs u.tbls (fun m' hm => by
    obtain ⟨o', es', ep', ho', r'⟩ := hm
    rw [ho] at ho'; cases ho'
    exact ⟨_, es', ep', hL, r'⟩) hok hg
theorem Inv.turned {t' : Nat} {it : Addr} (I : Inv X pins σ H s) (k : ∀ b o, b ≠ it → s.heap.get? b = some o → h'.get? b = some o) (hn : H it = none) (hL : it ≠ X.env.locals)
    (h1 : it ∈ X.ex ∨ X.s_0.heap.objs.size ≤ it) (h2 : ∀ x c, X.env.cells.lookup x = some c → c ≠ it) (h3 : ∀ p ∈ X.pn ++ pins, p.1 ≠ it) : Inv X pins σ H { s with heap := h', toks := t' } := by
  have nit : ∀ b u, H b = some u → b ≠ it := fun b u e z => by rw [z, hn] at e; cases e
  refine I.step (g' := s.gens) (d' := s.drawn) (ch := [it]) (fun b hb => ?_) (fun b o _ _ hc e _ => k b o (fun z => hc (by simp [z])) e) (fun b o _ _ hc e _ => ⟨o.slots, k b o (fun z => hc (by simp [z])) e⟩) (fun _ _ _ _ n => n)
    (fun b o hc e => ⟨o, k b o (fun z => hc (by simp [z])) e⟩) (fun _ _ e => e) (fun _ _ _ e => e) (fun b ps e => ⟨#[], by rw [e]; simp⟩) (fun m hm => ?_) (fun b u e => ?_) I.bare
  · have e : b = it := by simpa using hb
    subst e
    exact ⟨h1, hL, h2, h3⟩
  · obtain ⟨o, es, ep, ho, r⟩ := hm
    exact ⟨o, es, ep, k _ o (Ne.symm hL) ho, r⟩
  · refine (I.hok b u e).stay (fun c v hc q => k c v ?_ q) (fun _ q => q) fun _ _ q => q
    rcases hc with z | z
    · rw [z]; exact nit b u e
    · exact nit c _ z
theorem Inv.tok (I : Inv X pins σ H s) (t : Nat) : Inv X pins σ H { s with toks := t } := I.un (h' := s.heap) (t' := t) Un.refl I.hok
theorem Inv.kept {t' : Nat} (I : Inv X pins σ H s) (k : ∀ b u, s.heap.get? b = some u → h'.get? b = some u) : Inv X pins σ H { s with heap := h', toks := t' } := I.un (Un.kept k) (I.hok.kept k)
theorem Inv.laid {a : Addr} {o : HO} {t' : Nat} (I : Inv X pins σ H s) (k : ∀ b u, s.heap.get? b = some u → h'.get? b = some u) (hp : s.heap.objs.size ≤ a) (new : ObjOk X.prog X.w (upd H a o) h' a o) :
    Inv X pins σ (upd H a o) { s with heap := h', toks := t' } := I.un (Un.laid k hp (I.hok.fresh hp)) (I.hok.laid k hp new)
theorem Inv.write {x e : Addr} {o : HO} {t' : Nat} (I : Inv X pins σ H s) (mu : Mut (H x)) (he : e = x ∨ H e = some (.own x)) (k : ∀ b u, b ≠ e → s.heap.get? b = some u → h'.get? b = some u) (heo : ∃ u, h'.get? e = some u)
    (new : ObjOk X.prog X.w (upd H x o) h' x o) : Inv X pins σ (upd H x o) { s with heap := h', toks := t' } := I.un (Un.write mu he k heo) (I.hok.write mu he k heo new)
theorem Inv.weak {σ' : List (Option V)} (I : Inv X pins σ H s) (hl : σ'.length = σ.length) (w : ∀ (i : Nat) v, σ'[i]? = some (some v) → σ[i]? = some (some v)) : Inv X pins σ' H s :=
  ⟨I.ok, I.os, I.bare, I.base, let ⟨m, hn, hl'⟩ := I.loc; ⟨m, hn, fun i x v e1 e2 e3 => hl' i x v e1 (w i v e2) e3⟩, I.cell, I.free, I.freeC, I.pin, I.hok, hl.trans I.len⟩
theorem Inv.pins_of {pins' : List (Addr × Obj)} (I : Inv X pins σ H s) (h : ∀ p ∈ pins', s.heap.get? p.1 = some p.2 ∧ H p.1 = none ∧ p.1 ≠ X.env.locals ∧ p.1 ∉ X.fs ∧ ∀ v, p.2.data ≠ .cell v) : Inv X pins' σ H s :=
  ⟨I.ok, I.os, I.bare, I.base, I.loc, I.cell, I.free, I.freeC, fun p hp => (List.mem_append.mp hp).elim (fun z => I.pin p (List.mem_append_left _ z)) (h p), I.hok, I.len⟩
theorem nodup_ix {N : List Str} (hN : N.Nodup) {i j : Nat} {x : Str} (a : N[i]? = some x) (b : N[j]? = some x) : i = j := by
  obtain ⟨h1, e1⟩ := List.getElem?_eq_some_iff.mp a
  obtain ⟨h2, e2⟩ := List.getElem?_eq_some_iff.mp b
  exact (List.getElem_inj hN).mp (e1.trans e2.symm)
theorem store_ok2 {M : Model} {A : Around} {E : Value → Shared → Prop} {i : Nat} {x : Str} {v : V} {u : Value} {Q : Unit → Shared → Prop} (I : Inv X pins σ H s) (hN : X.N.Nodup) (hi : X.N[i]? = some x) (hx : Loc X.env.scope x) (r : RelV v u)
    (h : ∀ s', Inv X pins (σ.set i (some v)) H s' → (∃ a, Heap.SameBut a s.heap s'.heap ∧ (a = X.env.locals ∨ X.env.cells.lookup x = some a)) → Q () s') (hf : X.fn x = true ∨ X.env.scope.names.lookup x = some .local := by first | exact .inl rfl | exact .inr rfl | assumption) : wpAny M A (storeName X.env x u) Q E s := by
  obtain ⟨m, hn, hl⟩ := id I.loc
  have hcls : (X.env.scope.kind == .class || (X.env.scope.kind == .module && X.env.locals != X.env.globals)) = false := by rw [I.ok.kind]; rfl
  have hiσ : i < σ.length := by rw [I.len]; exact (List.getElem?_eq_some_iff.mp hi).1
  have cne := I.cne
  have tracked : ∀ {a : Addr} {h' : Heap}, (∃ o, s.heap.get? a = some o ∧ H a = none) → Heap.SameBut a s.heap h' → HOk X.prog X.w H h' := fun {a h'} ha hs b ob e => by
    obtain ⟨_, _, hfree⟩ := ha
    refine (I.hok b ob e).stay (fun c w' hc q => (hs.2 c ?_).trans q) (fun _ q => q) fun _ _ q => q
    rintro rfl
    rcases hc with rfl | hc
    · rw [hfree] at e; cases e
    · rw [hfree] at hc; cases hc
  rcases hx with hk | hk
  · refine wpAny_storeName_local hk hn (fun h' hn' hs => ?_) hcls
    obtain ⟨oL, _, _, hoL, _⟩ := id hn
    refine h _ ⟨I.ok, I.os, I.bare, ⟨fun b o e n hb hx => ?_, fun b o e n hb hx => ?_, I.base.free, fun b o e hx => ?_, I.base.tups, I.base.frzs, I.base.tbls⟩, ⟨_, hn', fun j y v' e1 e2 e3 => ?_⟩, fun y c e => ?_, I.free, I.freeC, fun p hp => ?_, tracked ⟨oL, hoL, I.free⟩ hs, by simpa using I.len⟩ ⟨_, hs, .inl rfl⟩
    · exact (hs.2 b (Nat.ne_of_lt (Nat.lt_of_lt_of_le (Heap.lt_size e) I.ok.above))).trans (I.base.keep b o e n hb hx)
    · obtain ⟨sl, e1⟩ := I.base.slot b o e n hb hx
      exact ⟨sl, (hs.2 b (Nat.ne_of_lt (Nat.lt_of_lt_of_le (Heap.lt_size e) I.ok.above))).trans e1⟩
    · obtain ⟨o', e1⟩ := I.base.there b o e hx
      exact ⟨o', (hs.2 b (Nat.ne_of_lt (Nat.lt_of_lt_of_le (Heap.lt_size e) I.ok.above))).trans e1⟩
    · by_cases hj : j = i
      · subst hj
        rw [hi] at e1; cases e1
        rw [List.getElem?_set_self hiσ] at e2
        cases e2
        exact ⟨u, r, .inl ⟨hk, by simp⟩⟩
      · rw [List.getElem?_set_ne (Ne.symm hj)] at e2
        obtain ⟨u', r', q⟩ := hl j y v' e1 e2 e3
        refine ⟨u', r', ?_⟩
        rcases q with ⟨k, e⟩ | ⟨k, c, e, z⟩
        · refine .inl ⟨k, ?_⟩
          have : y ≠ x := fun e => hj (nodup_ix hN e1 (e ▸ hi))
          simp [this, e]
        · exact .inr ⟨k, c, e, z.sameBut hs (cne y c e)⟩
    · obtain ⟨w', z⟩ := I.cell y c e
      exact ⟨w', z.sameBut hs (cne y c e)⟩
    · obtain ⟨e, n, ne, nf, d⟩ := I.pin p hp
      exact ⟨(hs.2 p.1 ne).trans e, n, ne, nf, d⟩
  · have hfn : X.fn x = true := by
      rcases hf with z | z
      · exact z
      · rw [z] at hk; cases hk
    obtain ⟨c, hc⟩ := I.ok.has x (.inl hk)
    obtain ⟨w', z⟩ := I.cell x c hc
    refine wpAny_storeName_cell I.ok.kind hk hc z (fun h' hc' hs => ?_)
    obtain ⟨oc, hoc, hocd⟩ := id z
    refine h { s with heap := h' } ⟨I.ok, I.os, I.bare, ⟨fun b o e n hb hx => ?_, fun b o e n hb hx => ?_, I.base.free, fun b o e hx => ?_, I.base.tups, I.base.frzs, I.base.tbls⟩, ⟨m, hn.sameBut hs (Ne.symm (cne x c hc)), fun j y v' e1 e2 e3 => ?_⟩, fun y c' e => ?_, I.free, I.freeC, fun p hp => ?_, tracked ⟨oc, hoc, I.freeC x c hc⟩ hs, by simpa using I.len⟩ ⟨c, hs, .inr hc⟩
    · exact (hs.2 b (Nat.ne_of_lt (Nat.lt_of_lt_of_le (Heap.lt_size e) (I.ok.cab x c hfn hc)))).trans (I.base.keep b o e n hb hx)
    · obtain ⟨sl, e1⟩ := I.base.slot b o e n hb hx
      exact ⟨sl, (hs.2 b (Nat.ne_of_lt (Nat.lt_of_lt_of_le (Heap.lt_size e) (I.ok.cab x c hfn hc)))).trans e1⟩
    · obtain ⟨o', e1⟩ := I.base.there b o e hx
      exact ⟨o', (hs.2 b (Nat.ne_of_lt (Nat.lt_of_lt_of_le (Heap.lt_size e) (I.ok.cab x c hfn hc)))).trans e1⟩
    · by_cases hj : j = i
      · subst hj
        rw [hi] at e1; cases e1
        rw [List.getElem?_set_self hiσ] at e2
        cases e2
        exact ⟨u, r, .inr ⟨.inl hk, c, hc, hc'⟩⟩
      · rw [List.getElem?_set_ne (Ne.symm hj)] at e2
        obtain ⟨u', r', q⟩ := hl j y v' e1 e2 e3
        refine ⟨u', r', ?_⟩
        rcases q with q | ⟨k, c', e, z'⟩
        · exact .inl q
        · refine .inr ⟨k, c', e, z'.sameBut hs ?_⟩
          rintro rfl
          exact hj (nodup_ix hN e1 (I.ok.inj _ _ _ e hc ▸ hi))
    · by_cases hcc : c' = c
      · subst hcc; exact ⟨_, hc'⟩
      · obtain ⟨w2, z2⟩ := I.cell y c' e
        exact ⟨w2, z2.sameBut hs hcc⟩
    · obtain ⟨e, n, ne, nf, d⟩ := I.pin p hp
      refine ⟨(hs.2 p.1 ?_).trans e, n, ne, nf, d⟩
      intro q
      rw [q, hoc] at e
      have q' : oc = p.2 := Option.some.inj e
      exact d w' (by rw [← q']; exact hocd)
theorem store_ok {M : Model} {A : Around} {E : Value → Shared → Prop} {i : Nat} {x : Str} {v : V} {u : Value} {Q : Unit → Shared → Prop} (I : Inv X pins σ H s) (hN : X.N.Nodup) (hi : X.N[i]? = some x) (hx : Loc X.env.scope x) (r : RelV v u)
    (h : ∀ s', Inv X pins (σ.set i (some v)) H s' → Q () s') (hf : X.fn x = true ∨ X.env.scope.names.lookup x = some .local := by first | exact .inl rfl | exact .inr rfl | assumption) : wpAny M A (storeName X.env x u) Q E s :=
  store_ok2 I hN hi hx r (fun s' I' _ => h s' I') hf
theorem Inv.call' {s' : Shared} {ch : List Addr} (I : Inv X pins σ H s) (ho : s'.os = s.os) (u : Un (frs X.stack) ch H H' s.heap s'.heap) (hok : HOk X.prog X.w H' s'.heap) (hg : AllBare s'.gens)
    (hch : ∀ b ∈ ch, (b ∈ X.ex ∨ X.s_0.heap.objs.size ≤ b) ∧ b ≠ X.env.locals ∧ (∀ x c, X.env.cells.lookup x = some c → c ≠ b) ∧ ∀ p ∈ X.pn ++ pins, p.1 ≠ b) : Inv X pins σ H' s' := by
  obtain ⟨h', g', d', t', o'⟩ := s'
  have e : o' = s.os := ho
  subst e
  exact I.call (g' := g') (t' := t') (d' := d') u hok hg hch
end
abbrev XK := Value → Option Addr → Hp → Prop
abbrev St := List (Option V)
abbrev VK := V → Hp → Prop
abbrev TE := St → Hp → VK → Prop
abbrev TT := St → Hp → (Bool → Hp → Prop) → Prop
abbrev TA := St → Hp → (List V → Hp → Prop) → Prop
structure Ends where
  nx : St → Hp → Prop
  rt : VK
  bk : St → Hp → Prop := fun _ _ => False
  ct : St → Hp → Prop := fun _ _ => False
abbrev TS := Ends → St → Hp → Prop
def EP (X : Cx) (pins : List (Addr × Obj)) (σ : St) (Q : VK) (u : Value) (s' : Shared) : Prop := ∃ v H', Inv X pins σ H' s' ∧ RelV v u ∧ Q v H'
def TP (X : Cx) (pins : List (Addr × Obj)) (σ : St) (Q : Bool → Hp → Prop) (b : Bool) (s' : Shared) : Prop := ∃ H', Inv X pins σ H' s' ∧ Q b H'
def AP (X : Cx) (pins : List (Addr × Obj)) (σ : St) (Q : List V → Hp → Prop) (us : List Value) (s' : Shared) : Prop := ∃ vs H', Inv X pins σ H' s' ∧ Vals vs us ∧ Q vs H'
def SP (X : Cx) (pins : List (Addr × Obj)) (D : Ends) (f : Flow) (s' : Shared) : Prop :=
  match f with
  | .next => ∃ σ' H', Inv X pins σ' H' s' ∧ D.nx σ' H'
  | .brk => ∃ σ' H', Inv X pins σ' H' s' ∧ D.bk σ' H'
  | .cont => ∃ σ' H', Inv X pins σ' H' s' ∧ D.ct σ' H'
  | .ret u => ∃ v σ' H', Inv X pins σ' H' s' ∧ RelV v u ∧ D.rt v H'
def PE (X : Cx) (e : Expr) (t : TE) : Prop :=
  ∀ (pins : List (Addr × Obj)) (s : Shared) (σ : St) (H : Hp) (Q : VK), Inv X pins σ H s → t σ H Q → wpAny (model X.prog X.w) X.A (eval e X.env) (EP X pins σ Q) X.xe s
def PT (X : Cx) (e : Expr) (t : TT) : Prop :=
  ∀ (pins : List (Addr × Obj)) (s : Shared) (σ : St) (H : Hp) (Q : Bool → Hp → Prop), Inv X pins σ H s → t σ H Q → wpAny (model X.prog X.w) X.A (isTrue e X.env (eval e X.env)) (TP X pins σ Q) X.xe s
def PW (X : Cx) (e : Expr) (t : TT) : Prop :=
  ∀ (whole : Sem Value) (pins : List (Addr × Obj)) (s : Shared) (σ : St) (H : Hp) (Q : Bool → Hp → Prop), Inv X pins σ H s → t σ H Q → wpAny (model X.prog X.w) X.A (isTrue e X.env whole) (TP X pins σ Q) X.xe s
theorem PW.pt {X : Cx} {e : Expr} {t : TT} (h : PW X e t) : PT X e t := h _
def PA (X : Cx) (es : List Expr) (t : TA) : Prop :=
  ∀ (pos : Pos) (pins : List (Addr × Obj)) (s : Shared) (σ : St) (H : Hp) (Q : List V → Hp → Prop), Inv X pins σ H s → t σ H Q → wpAny (model X.prog X.w) X.A (spliced (backTo pos (starEach es X.env))) (AP X pins σ Q) X.xe s
def PS (X : Cx) (st : Stmt) (t : TS) : Prop :=
  ∀ (pins : List (Addr × Obj)) (s : Shared) (σ : St) (H : Hp) (D : Ends), Inv X pins σ H s → t D σ H → wpAny (model X.prog X.w) X.A (exec st X.env) (SP X pins D) X.xe s
def PSs (X : Cx) (st : List Stmt) (t : TS) : Prop :=
  ∀ (pins : List (Addr × Obj)) (s : Shared) (σ : St) (H : Hp) (D : Ends), Inv X pins σ H s → t D σ H → wpAny (model X.prog X.w) X.A (execs st X.env) (SP X pins D) X.xe s
theorem thn {α : Type} {t : Sem α} {Q Q' : α → Shared → Prop} {M : Model} {A : Around} {E : Value → Shared → Prop} {s : Shared} (h : wpAny M A t Q E s) (hQ : ∀ a s, Q a s → Q' a s) : wpAny M A t Q' E s := wpAny_mono h hQ fun _ _ x => x
end L2
namespace L2
open PySem PySem.Spec PyProof.Rows
section
variable {X : Cx}
def tVar (i : Nat) : TE := fun σ H Q => ∃ v, σ[i]? = some (some v) ∧ Q v H
def tC (v : V) : TE := fun _ H Q => Q v H
theorem pe_var {i : Nat} {x : Str} {pos : Pos} (hN : X.N[i]? = some x) (hv : Vis X.env.scope x) (hd : (x == ("__debug__" : Str)) = false := by decide) (hcd : (x == ("__classdict__" : Str)) = false := by decide) : PE X (.Name x pos) (tVar i) := by
  intro pins s σ H Q I h
  obtain ⟨v, e, h⟩ := h
  obtain ⟨m, hn, hl⟩ := I.loc
  obtain ⟨u, r, l⟩ := hl i x v hN e hv
  have fin : EP X pins σ Q u s := ⟨v, H, I, r, h⟩
  rcases l with ⟨hk, hm⟩ | ⟨hk, c, hc, hcell⟩
  · exact wpAny_Name (wpAny_loadName_local I.ok.kind hk hn hm fin) hd
  · rcases hk with hk | hk
    · exact wpAny_Name (wpAny_loadName_cell I.ok.kind hk hc hcell fin) hd
    · exact wpAny_Name (wpAny_loadName_free I.ok.kind hk hc hcell fin hcd) hd
theorem pe_int {i j pos} : PE X (.Constant (.int i) j pos) (tC (.int i)) := fun _ _ _ H _ I h => wpAny_Constant_int ⟨.int i, H, I.tok _, ⟨_, rfl⟩, h⟩
theorem pe_bl {b j pos} : PE X (.Constant (.bool b) j pos) (tC (.bl b)) := fun _ _ _ H _ I h => Constant_bool ⟨.bl b, H, I, rfl, h⟩
theorem pe_non {j pos} : PE X (.Constant .none j pos) (tC .non) := fun _ _ _ H _ I h => Constant_none ⟨.non, H, I, rfl, h⟩
def Gl (X : Cx) (x : Str) : Prop := X.env.kindOf x = some .globalImplicit
theorem ld_glob {E : Value → Shared → Prop} {pins : List (Addr × Obj)} {s : Shared} {σ : St} {H : Hp} {x : Str} {u : Value} {pos : Pos} {Q : Value → Shared → Prop} (I : Inv X pins σ H s) (hg : Gl X x) (hm : X.mg x = some u) (h : Q u s)
    (hd : (x == ("__debug__" : Str)) = false := by decide) : wpAny (model X.prog X.w) X.A (eval (.Name x pos) X.env) Q E s :=
  Calls.Name_function_global I.ok.kind hg (Calls.loadGlobal_global (by rw [I.ok.glob]; exact I.mod.glob.keeps I.bk) hm h) hd
theorem ld_blt {E : Value → Shared → Prop} {pins : List (Addr × Obj)} {s : Shared} {σ : St} {H : Hp} {x : Str} {u : Value} {pos : Pos} {Q : Value → Shared → Prop} (I : Inv X pins σ H s) (hg : Gl X x) (hm : X.mg x = none) (hv : bootBuiltins x = some u) (h : Q u s)
    (hn : x ≠ "__name__" := by decide) (hd : (x == ("__debug__" : Str)) = false := by decide) : wpAny (model X.prog X.w) X.A (eval (.Name x pos) X.env) Q E s := by
  obtain ⟨mb, h1, h2⟩ := I.mod.blt
  exact Calls.Name_function_global I.ok.kind hg (Calls.loadGlobal_builtin (by rw [I.ok.glob]; exact I.mod.glob.keeps I.bk) hm (by rw [I.ok.blt]; exact h1.keeps I.bk) ((h2 x hn).trans hv) h) hd
theorem pe_glob {x : Str} {v : V} {u : Value} {pos : Pos} (hg : Gl X x) (hm : X.mg x = some u) (r : RelV v u) (hd : (x == ("__debug__" : Str)) = false := by decide) : PE X (.Name x pos) (tC v) :=
  fun _ _ _ H _ I h => ld_glob I hg hm ⟨v, H, I, r, h⟩ hd
variable {a b : Expr} {ta tb : TE} {pos : Pos}
def tB (t : TE) : TT := fun σ H Q => t σ H fun x H1 => ∃ c, x = .bl c ∧ Q c H1
theorem pt_val {e : Expr} {t : TE} (h : PE X e t) (he : ∀ whole, isTrue e X.env whole = (do let v ← whole; standAt e.pos; holding [v] (truthy v)) := by intro _; rfl) : PT X e (tB t) := by
  intro pins s σ H Q I hw
  refine isTrue_plain (thn (h pins s σ H _ I hw) fun v s1 ⟨x, H1, I1, r1, q1⟩ => ?_) (he _)
  obtain ⟨d, rfl, q⟩ := q1
  cases r1
  exact wpAny_truthy_bool ⟨H1, I1, q⟩
variable {tA tB' : TT} {rest : List Expr}
def tAnd (t u : TT) : TT := fun σ H Q => t σ H fun c H1 => if c = true then u σ H1 Q else Q false H1
def tOr (t u : TT) : TT := fun σ H Q => t σ H fun c H1 => if c = true then Q true H1 else u σ H1 Q
def tNot (t : TT) : TT := fun σ H Q => t σ H fun c H1 => Q (!c) H1
theorem pw_and1 (ha : PT X a tA) : PW X (.BoolOp .And [a] pos) tA := by
  intro wh pins s σ H Q I h
  refine isTrue_and (thn (ha pins s σ H Q I h) fun c s1 e => ?_)
  cases c with
  | true => exact isTrue_and_nil e
  | false => exact e
theorem pw_or1 (ha : PT X a tA) : PW X (.BoolOp .Or [a] pos) tA := by
  intro wh pins s σ H Q I h
  refine isTrue_or (thn (ha pins s σ H Q I h) fun c s1 e => ?_)
  cases c with
  | false => exact isTrue_or_nil e
  | true => exact e
theorem pw_and (ha : PT X a tA) (hb : PW X (.BoolOp .And (b :: rest) pos) tB') : PW X (.BoolOp .And (a :: b :: rest) pos) (tAnd tA tB') := by
  intro wh pins s σ H Q I h
  refine isTrue_and (thn (ha pins s σ H _ I h) fun c s1 ⟨H1, I1, q1⟩ => ?_)
  cases c with
  | true => exact hb wh pins s1 σ H1 Q I1 q1
  | false => exact ⟨H1, I1, q1⟩
theorem pw_or (ha : PT X a tA) (hb : PW X (.BoolOp .Or (b :: rest) pos) tB') : PW X (.BoolOp .Or (a :: b :: rest) pos) (tOr tA tB') := by
  intro wh pins s σ H Q I h
  refine isTrue_or (thn (ha pins s σ H _ I h) fun c s1 ⟨H1, I1, q1⟩ => ?_)
  cases c with
  | true => exact ⟨H1, I1, q1⟩
  | false => exact hb wh pins s1 σ H1 Q I1 q1
theorem pt_not (ha : PT X a tA) : PT X (.UnaryOp .Not a pos) (tNot tA) := by
  intro pins s σ H Q I h
  exact isTrue_not (ha pins s σ H (fun c H1 => Q (!c) H1) I h)
def tAndV (ta tb : TE) : TE := fun σ H Q => ta σ H fun x H1 => ∃ c, x = .bl c ∧ if c = true then tb σ H1 Q else Q (.bl false) H1
def tNotV (ta : TE) : TE := fun σ H Q => ta σ H fun x H1 => ∃ c, x = .bl c ∧ Q (.bl (!c)) H1
theorem pe_one {op} {t : TE} (h : PE X a t) : PE X (.BoolOp op [a] pos) t := fun pins s σ H Q I hw => BoolOp_one (h pins s σ H Q I hw)
theorem pe_and (ha : PE X a ta) (hb : PE X (.BoolOp .And (b :: rest) pos) tb) : PE X (.BoolOp .And (a :: b :: rest) pos) (tAndV ta tb) := by
  intro pins s σ H Q I h
  refine BoolOp_and (thn (ha pins s σ H _ I h) fun v s1 ⟨x, H1, I1, r1, q1⟩ => ?_)
  obtain ⟨c, rfl, q1⟩ := q1
  cases r1
  refine wpAny_truthy_bool ?_
  cases c with
  | true => exact hb pins s1 σ H1 Q I1 q1
  | false => exact ⟨.bl false, H1, I1, rfl, q1⟩
theorem pe_not (ha : PE X a ta) : PE X (.UnaryOp .Not a pos) (tNotV ta) := by
  intro pins s σ H Q I h
  refine UnaryOp_ (thn (ha pins s σ H _ I h) fun v s1 ⟨x, H1, I1, r1, q1⟩ => ?_)
  obtain ⟨c, rfl, q1⟩ := q1
  cases r1
  exact not_of (wpAny_truthy_bool ⟨.bl (!c), H1, I1, rfl, q1⟩)
def tIf (t : TT) (ta tb : TE) : TE := fun σ H Q => t σ H fun c H1 => if c = true then ta σ H1 Q else tb σ H1 Q
theorem pe_ifExp {c : Expr} (hc : PT X c tA) (ha : PE X a ta) (hb : PE X b tb) : PE X (.IfExp c a b pos) (tIf tA ta tb) := by
  intro pins s σ H Q I h
  refine wpAny_IfExp (thn (hc pins s σ H _ I h) fun d s1 ⟨H1, I1, q1⟩ => ?_)
  cases d with
  | true => exact ha pins s1 σ H1 Q I1 q1
  | false => exact hb pins s1 σ H1 Q I1 q1
end
end L2
namespace L2
open PySem PySem.Spec PyProof.Rows
def SqL (K : PySem.W.Frag) (H : Hp) (a : Addr) (xs : List V) : Prop :=
  Rd H a (.lst xs) ∨
    ∃ (o : Obj) (its : Array Value) (n : Nat), K.lookup a = some o ∧ o.cls = .type "list" ∧ o.dict = none ∧ o.data = .seq its n ∧ its.size ≤ sizeLine ∧ Vals xs its.toList
def SqT (K : PySem.W.Frag) (H : Hp) (a : Addr) (xs : List V) : Prop :=
  Rd H a (.tup xs) ∨
    ∃ (o : Obj) (its : Array Value) (n : Nat), K.lookup a = some o ∧ o.cls = .type "tuple" ∧ o.data = .seq its n ∧ its.size ≤ sizeLine ∧ Vals xs its.toList
def absV : Value → Option V
  | .none => some .non
  | .bool b => some (.bl b)
  | .int i _ => some (.int i)
  | .str x _ => some (.str x)
  | .bytes b _ => some (.byt b)
  | .float b _ => some (.flt b)
  | .ref a => some (.ref a)
  | .type n => some (.ty n)
  | _ => none
theorem RelV.abs {x : V} {u : Value} (r : RelV x u) : absV u = some x := by
  cases x with
  | non => cases r; rfl
  | bl _ => cases r; rfl
  | int _ => obtain ⟨t, rfl⟩ := r; rfl
  | str _ => obtain ⟨t, rfl⟩ := r; rfl
  | byt _ => obtain ⟨t, rfl⟩ := r; rfl
  | flt _ => obtain ⟨t, rfl⟩ := r; rfl
  | ref _ => cases r; rfl
  | ty _ => cases r; rfl
theorem RelV.inj {x y : V} {u : Value} (r : RelV x u) (q : RelV y u) : x = y := Option.some.inj (r.abs.symm.trans q.abs)
theorem Vals.inj : ∀ {xs ys : List V} {us : List Value}, Vals xs us → Vals ys us → xs = ys
  | _, _, _, .nil, .nil => rfl
  | _, _, _, .cons r t, .cons r' t' => by rw [r.inj r', Vals.inj t t']
section
variable {X : Cx} {pins : List (Addr × Obj)} {σ : St} {H : Hp} {s : Shared} {a : Addr} {xs ys : List V}
theorem SqL.of {K : PySem.W.Frag} (h : H a = some (.lst xs)) : SqL K H a xs := .inl (.inl h)
theorem SqT.of {K : PySem.W.Frag} (h : H a = some (.tup xs)) : SqT K H a xs := .inl (.inl h)
theorem Inv.list (I : Inv X pins σ H s) (h : SqL X.K H a xs) : ∃ its : List Value, Vals xs its ∧ PlainL s.heap a its.toArray ∧ xs.length ≤ sizeLine := by
  rcases h with h | ⟨o, its, n, hk, hc, hd, hs, hz, r⟩
  · obtain ⟨z, its, n, r, e⟩ := h.ok I.hok
    exact ⟨its, r, ⟨_, n, e, rfl, rfl, rfl⟩, z⟩
  · refine ⟨its.toList, r, ⟨o, n, I.kIn a o hk, hc, hd, by simpa using hs⟩, ?_⟩
    have e := r.length
    simp only [Array.length_toList] at e
    omega
theorem Inv.tuple (I : Inv X pins σ H s) (h : SqT X.K H a xs) : ∃ its : List Value, Vals xs its ∧ IsTup s.heap a its.toArray ∧ xs.length ≤ sizeLine := by
  rcases h with h | ⟨o, its, n, hk, hc, hs, hz, r⟩
  · obtain ⟨z, its, r, p⟩ := h.ok I.hok
    exact ⟨its, r, p, z⟩
  · refine ⟨its.toList, r, ⟨o, I.kIn a o hk, hc, n, by simpa using hs⟩, ?_⟩
    have e := r.length
    simp only [Array.length_toList] at e
    omega
theorem Inv.list_inj (I : Inv X pins σ H s) (h : SqL X.K H a xs) (h' : SqL X.K H a ys) : xs = ys := by
  obtain ⟨its, r, ⟨o, n, e, _, _, d⟩, _⟩ := I.list h
  obtain ⟨its', r', ⟨o', n', e', _, _, d'⟩, _⟩ := I.list h'
  rw [e] at e'; cases e'
  rw [d] at d'
  injection d' with d1 _
  have : its = its' := by simpa using congrArg Array.toList d1
  subst this
  exact r.inj r'
theorem Inv.tuple_inj (I : Inv X pins σ H s) (h : SqT X.K H a xs) (h' : SqT X.K H a ys) : xs = ys := by
  obtain ⟨its, r, ⟨o, e, _, n, d⟩, _⟩ := I.tuple h
  obtain ⟨its', r', ⟨o', e', _, n', d'⟩, _⟩ := I.tuple h'
  rw [e] at e'; cases e'
  rw [d] at d'
  injection d' with d1 _
  have : its = its' := by simpa using congrArg Array.toList d1
  subst this
  exact r.inj r'
end
abbrev Cx.wish (X : Cx) (E : Value → Shared → Prop) : Cx := { X with xe := E }
abbrev Cx.nox (X : Cx) : Cx := X.wish fun _ _ => False
theorem Cx.Ok.wish {X : Cx} (ok : X.Ok) (E : Value → Shared → Prop) : (X.wish E).Ok :=
  ⟨ok.mod, ok.kind, ok.glob, ok.blt, ok.above, ok.inj, ok.has, ok.cab, ok.hd, ok.frames, ok.stk, ok.exf, ok.bs, ok.bsz, ok.noex, ok.exfs, ok.funs, ok.frf⟩
theorem Cx.Ok.unwish {X : Cx} {E : Value → Shared → Prop} (ok : (X.wish E).Ok) : X.Ok :=
  ⟨ok.mod, ok.kind, ok.glob, ok.blt, ok.above, ok.inj, ok.has, ok.cab, ok.hd, ok.frames, ok.stk, ok.exf, ok.bs, ok.bsz, ok.noex, ok.exfs, ok.funs, ok.frf⟩
section
variable {X : Cx} {pins : List (Addr × Obj)} {σ : St} {H : Hp} {s : Shared} {E : Value → Shared → Prop}
theorem Inv.wish (I : Inv X pins σ H s) (E : Value → Shared → Prop) : Inv (X.wish E) pins σ H s := ⟨I.ok.wish E, I.os, I.bare, I.base, I.loc, I.cell, I.free, I.freeC, I.pin, I.hok, I.len⟩
theorem Inv.unwish (I : Inv (X.wish E) pins σ H s) : Inv X pins σ H s := ⟨I.ok.unwish, I.os, I.bare, I.base, I.loc, I.cell, I.free, I.freeC, I.pin, I.hok, I.len⟩
theorem SP.unwish {D : Ends} {f : Flow} {s' : Shared} (h : SP (X.wish E) pins D f s') : SP X pins D f s' := by
  cases f with
  | next => obtain ⟨σ', H', I, q⟩ := h; exact ⟨σ', H', I.unwish, q⟩
  | brk => obtain ⟨σ', H', I, q⟩ := h; exact ⟨σ', H', I.unwish, q⟩
  | cont => obtain ⟨σ', H', I, q⟩ := h; exact ⟨σ', H', I.unwish, q⟩
  | ret u => obtain ⟨v, σ', H', I, r, q⟩ := h; exact ⟨v, σ', H', I.unwish, r, q⟩
theorem PSs.nox {st : List Stmt} {t : TS} (h : PSs X.nox st t) : PSs X st t := fun pins s σ H D I hw =>
  wpAny_mono (h pins s σ H D (I.wish _) hw) (fun _ _ q => q.unwish) fun _ _ z => False.elim z
end
section
variable {X : Cx} {st : Stmt} {rest : List Stmt} {t u : TS} {e : Expr} {te : TE} {pos : Pos}
def tNext : TS := fun D σ H => D.nx σ H
def tSeq (t u : TS) : TS := fun D σ H => t { D with nx := u D } σ H
theorem pss_nil : PSs X [] tNext := fun _ _ σ H _ I h => wpAny_execs_nil ⟨σ, H, I, h⟩
theorem pss_cons (h1 : PS X st t) (h2 : PSs X rest u) : PSs X (st :: rest) (tSeq t u) := by
  intro pins s σ H D I h
  refine wpAny_execs_cons (thn (h1 pins s σ H { D with nx := u D } I h) fun f s1 q => ?_)
  cases f with
  | next =>
    obtain ⟨σ', H', I', q⟩ := q
    exact h2 pins s1 σ' H' D I' q
  | ret v => exact q
  | brk => exact q
  | cont => exact q
theorem pss_one (h1 : PS X st t) : PSs X [st] t := by
  intro pins s σ H D I h
  refine wpAny_execs_cons (thn (h1 pins s σ H D I h) fun f s1 q => ?_)
  cases f with
  | next => exact wpAny_execs_nil q
  | ret v => exact q
  | brk => exact q
  | cont => exact q
theorem Inv.quiet {pins : List (Addr × Obj)} {σ : St} {H : Hp} {s : Shared} (I : Inv X pins σ H s) : interactive X.env = false := by simp [interactive, I.ok.kind]
def tDrop (te : TE) : TS := fun D σ H => te σ H fun _ H1 => D.nx σ H1
theorem ps_expr (he : PE X e te) (hs : swapsWith e none pos.line X.env = pure false := by rfl) : PS X (.Expr e pos) (tDrop te) := by
  intro pins s σ H D I h
  exact wpAny_Expr_any (thn (he pins s σ H _ I h) fun v s1 ⟨x, H1, I1, r1, q1⟩ => ⟨σ, H1, I1, q1⟩) I.quiet hs
def tRet (te : TE) : TS := fun D σ H => te σ H D.rt
theorem ps_ret (he : PE X e te) : PS X (.Return (some e) pos) (tRet te) := by
  intro pins s σ H D I h
  exact wpAny_Return_some (thn (he pins s σ H _ I h) fun v s1 ⟨x, H1, I1, r1, q1⟩ => ⟨x, σ, H1, I1, r1, q1⟩)
def tRetN : TS := fun D _ H => D.rt .non H
theorem ps_retN : PS X (.Return none pos) tRetN := fun _ _ σ H _ I h => wpAny_Return_none ⟨.non, σ, H, I, rfl, h⟩
def tIfS (c : TT) (t u : TS) : TS := fun D σ H => c σ H fun b H1 => if b = true then t D σ H1 else u D σ H1
theorem ps_if {c : Expr} {a b : List Stmt} {tc : TT} (hc : PT X c tc) (ha : PSs X a t) (hb : PSs X b u) : PS X (.If c a b pos) (tIfS tc t u) := by
  intro pins s σ H D I h
  refine wpAny_If (thn (hc pins s σ H _ I h) fun d s1 ⟨H1, I1, q1⟩ => ?_)
  cases d with
  | true => exact ha pins s1 σ H1 D I1 q1
  | false => exact hb pins s1 σ H1 D I1 q1
end
abbrev TG := V → St → Hp → (St → Hp → Prop) → Prop
abbrev TGs := List V → St → Hp → (St → Hp → Prop) → Prop
def PG (X : Cx) (target : Expr) (t : TG) : Prop :=
  ∀ (pins : List (Addr × Obj)) (s : Shared) (σ : St) (H : Hp) (v : V) (u : Value) (Q : St → Hp → Prop), Inv X pins σ H s → RelV v u → t v σ H Q →
    wpAny (model X.prog X.w) X.A (assign target X.env u) (fun _ s' => ∃ σ' H', Inv X pins σ' H' s' ∧ Q σ' H') X.xe s
def PGs (X : Cx) (ts : List Expr) (t : TGs) : Prop :=
  ∀ (pins : List (Addr × Obj)) (s : Shared) (σ : St) (H : Hp) (vs : List V) (us : List Value) (Q : St → Hp → Prop), Inv X pins σ H s → Vals vs us → t vs σ H Q →
    wpAny (model X.prog X.w) X.A (assignInOrder ((assignEach ts X.env).map (·.2)) us) (fun _ s' => ∃ σ' H', Inv X pins σ' H' s' ∧ Q σ' H') X.xe s
abbrev TSet := V → V → V → Hp → (Hp → Prop) → Prop
def PSet (X : Cx) (t : TSet) : Prop :=
  ∀ (pins : List (Addr × Obj)) (s : Shared) (σ : St) (H : Hp) (o i v : V) (ov iv u : Value) (Q : Hp → Prop), Inv X pins σ H s → RelV o ov → RelV i iv → RelV v u → t o i v H Q →
    wpAny (model X.prog X.w) X.A (setItem ov iv u) (fun _ s' => ∃ H', Inv X pins σ H' s' ∧ Q H') X.xe s
section
variable {X : Cx} {pos : Pos}
def gName (i : Nat) : TG := fun v σ H Q => Q (σ.set i (some v)) H
theorem pg_name {i : Nat} {x : Str} (hN : X.N.Nodup) (hi : X.N[i]? = some x) (hx : Loc X.env.scope x) (hf : X.fn x = true ∨ X.env.scope.names.lookup x = some .local := by first | exact .inl rfl | exact .inr rfl | assumption) : PG X (.Name x pos) (gName i) := by
  intro pins s σ H v u Q I r h
  exact wpAny_assign_Name (store_ok I hN hi hx r (fun s' I' => ⟨_, H, I', h⟩) hf)
def gNil : TGs := fun vs σ H Q => vs = [] ∧ Q σ H
def gCons (t : TG) (u : TGs) : TGs := fun vs σ H Q => ∃ v r, vs = v :: r ∧ t v σ H fun σ' H' => u r σ' H' Q
theorem pgs_nil : PGs X [] gNil := by
  intro pins s σ H vs us Q I r h
  obtain ⟨e, h⟩ := h
  subst e
  cases r
  exact assignInOrder_nil ⟨σ, H, I, h⟩
theorem pgs_cons {e : Expr} {es : List Expr} {t : TG} {u : TGs} (h1 : PG X e t) (h2 : PGs X es u)
    (hs : (assignEach (e :: es) X.env).map (·.2) = assign e X.env :: (assignEach es X.env).map (·.2) := by rfl) : PGs X (e :: es) (gCons t u) := by
  intro pins s σ H vs us Q I r h
  obtain ⟨v, vr, e1, h⟩ := h
  subst e1
  cases r with
  | cons r rr =>
    rw [hs]
    refine assignInOrder_cons (thn (h1 pins s σ H _ _ _ I r h) fun _ s1 ⟨σ1, H1, I1, q1⟩ => ?_)
    exact h2 pins s1 σ1 H1 _ _ Q I1 rr q1
def gTup (K : PySem.W.Frag) (n : Nat) (t : TGs) : TG := fun v σ H Q => ∃ a xs, v = .ref a ∧ SqT K H a xs ∧ xs.length = n ∧ t xs σ H Q
theorem pg_tup {es : List Expr} {k : Nat} {t : TGs} {n : Nat} (hc : X.calm = true) (h : PGs X es t)
    (hn : (assignEach es X.env).length = n := by rfl) (hst : (assignEach es X.env).findIdx? (·.1) = none := by rfl) : PG X (.Tuple es k pos) (gTup X.K n t) := by
  intro pins s σ H v u Q I r hw
  obtain ⟨a, xs, e1, hq, hl, hw⟩ := hw
  subst e1
  cases r
  obtain ⟨its, rv, ht, hz⟩ := I.tuple hq
  refine assign_Tuple_tuple (I.ok.hd hc) ht (by simp [hn, ← hl, rv.length]) hst fun h' hx => ?_
  have I1 : Inv X pins σ H { s with heap := h' } := I.kept (t' := s.toks) fun b o e => hx b o (Nat.ne_of_lt (Heap.lt_size e)) e
  exact h pins _ σ H xs _ Q I1 (by simpa using rv) hw
def gSub (to ti : TE) (t : TSet) : TG := fun v σ H Q => to σ H fun o H1 => ti σ H1 fun i H2 => t o i v H2 fun H3 => Q σ H3
theorem pg_sub {o i : Expr} {to ti : TE} {t : TSet} (ho : PE X o to) (hi : PE X i ti) (hs : PSet X t)
    (ha : ∀ v, assign (.Subscript o i pos) X.env v = (do
      let ov ← holding [v] (eval o X.env)
      let iv ← holding [v, ov] (eval i X.env)
      standAt pos
      holding [v, ov, iv] (setItem ov iv v)
      release [v, ov, iv] []) := by intro _; rfl) : PG X (.Subscript o i pos) (gSub to ti t) := by
  intro pins s σ H v u Q I r h
  rw [ha]
  refine wpAny_bind (wpAny_holding (thn (ho pins s σ H _ I h) fun ov s1 ⟨x, H1, I1, r1, q1⟩ => ?_))
  refine wpAny_bind (wpAny_holding (thn (hi pins s1 σ H1 _ I1 q1) fun iv s2 ⟨y, H2, I2, r2, q2⟩ => ?_))
  refine wpAny_bind (wpAny_standAt (wpAny_bind (wpAny_holding (thn (hs pins s2 σ H2 x y v ov iv u _ I2 r1 r2 r q2) fun _ s3 ⟨H3, I3, q3⟩ => ?_))))
  exact wpAny_release ⟨σ, H3, I3, q3⟩
def tAsg (te : TE) (g : TG) : TS := fun D σ H => te σ H fun x H1 => g x σ H1 D.nx
theorem ps_asg {tg e : Expr} {te : TE} {g : TG} (he : PE X e te) (hg : PG X tg g) (hs : swapsWithSole [tg] e pos.line X.env = pure false := by rfl) (hw : swappedStores [tg] e X.env = pure none := by rfl)
    (h1 : (assignEach [tg] X.env).map (·.2) = [assign tg X.env] := by rfl) : PS X (.Assign [tg] e pos) (tAsg te g) := by
  intro pins s σ H D I h
  refine wpAny_Assign_stores (thn (he pins s σ H _ I h) fun v s1 ⟨x, H1, I1, r1, q1⟩ => ?_) hs hw
  rw [h1]
  exact thn (hg pins s1 σ H1 x v _ I1 r1 q1) fun _ s2 q => q
theorem ps_set {i : Nat} {x : Str} {e : Expr} {te : TE} {pos' : Pos} (hN : X.N.Nodup) (hi : X.N[i]? = some x) (hx : Loc X.env.scope x) (he : PE X e te) (hs : swapsWith e (some (.Name x pos')) pos.line X.env = pure false := by rfl) (hf : X.fn x = true ∨ X.env.scope.names.lookup x = some .local := by first | exact .inl rfl | exact .inr rfl | assumption) :
    PS X (.Assign [.Name x pos'] e pos) (tAsg te (gName i)) := by
  intro pins s σ H D I h
  refine wpAny_Assign_Name (thn (he pins s σ H _ I h) fun v s1 ⟨y, H1, I1, r1, q1⟩ => ?_) hs
  exact store_ok I1 hN hi hx r1 (fun s2 I2 => ⟨_, H1, I2, q1⟩) hf
end
section
variable {X : Cx} {pos : Pos}
def tWhile (c : TT) (tb : TS) : TS := fun D σ H => ∃ W : Nat → St → Hp → Prop, (∃ m, W m σ H) ∧ ∀ m σ H, W m σ H →
  c σ H fun b H1 => if b = true then ∃ N : St → Hp → Prop, (∀ σ' H', N σ' H' → ∃ m', m' < m ∧ W m' σ' H') ∧ tb { D with nx := N, ct := N, bk := D.nx } σ H1 else D.nx σ H1
theorem ps_while {c : Expr} {body : List Stmt} {tc : TT} {tb : TS} (hp : PassesOwn (model X.prog X.w) X.A X.env X.xe) (hc : PT X c tc) (hb : PSs X body tb) : PS X (.While c body [] pos) (tWhile tc tb) := by
  intro pins s σ H D I h
  obtain ⟨W, ⟨m0, w0⟩, turn⟩ := h
  refine wpAny_While (codeAny_whileLoop (fun n s' => ∃ σ' H', Inv X pins σ' H' s' ∧ W n σ' H') ?_ m0 ⟨σ, H, I, w0⟩)
  rintro n s1 ⟨σ1, H1, I1, w1⟩
  refine wpAny_passesOwn hp (thn (hc pins s1 σ1 H1 _ I1 (turn n σ1 H1 w1)) fun b s2 ⟨H2, I2, q2⟩ => ?_)
  cases b with
  | true =>
    obtain ⟨N, hN, q2⟩ := q2
    rw [if_pos rfl]
    refine wpAny_passesOwn hp (thn (hb pins s2 σ1 H2 _ I2 q2) fun f s3 q3 => ?_)
    cases f with
    | next =>
      obtain ⟨σ3, H3, I3, n3⟩ := q3
      obtain ⟨m', hm, w3⟩ := hN σ3 H3 n3
      exact ⟨m', hm, σ3, H3, I3, w3⟩
    | cont =>
      obtain ⟨σ3, H3, I3, n3⟩ := q3
      obtain ⟨m', hm, w3⟩ := hN σ3 H3 n3
      exact ⟨m', hm, σ3, H3, I3, w3⟩
    | brk => exact q3
    | ret v => exact q3
  | false =>
    rw [if_neg Bool.false_ne_true]
    exact wpAny_execs_nil ⟨σ1, H2, I2, q2⟩
end
structure It where
  go : Nat → Hp → Prop
  yld : Nat → Hp → V → Hp → Prop
  stop : Nat → Hp → Prop
def FpOk (X : Cx) (pins : List (Addr × Obj)) (H : Hp) (b : Addr) : Prop :=
  H b = none ∧ b ≠ X.env.locals ∧ b ∉ X.fs ∧ (b ∈ X.ex ∨ X.s_0.heap.objs.size ≤ b) ∧ (∀ x c, X.env.cells.lookup x = some c → c ≠ b) ∧ ∀ p ∈ X.pn ++ pins, p.1 ≠ b
theorem Inv.fpOk {X : Cx} {pins : List (Addr × Obj)} {σ : St} {H H' : Hp} {s : Shared} {b : Addr} (I : Inv X pins σ H s) (hb : s.heap.objs.size ≤ b) (hn : H' b = none) : FpOk X pins H' b := by
  refine ⟨hn, Nat.ne_of_gt (Nat.lt_of_lt_of_le I.lt hb), I.nofs hb, .inr (Nat.le_trans I.sz hb), fun x c e z => ?_, fun p hp z => ?_⟩
  · obtain ⟨v, q⟩ := I.cell x c e
    exact absurd (Nat.lt_of_lt_of_le q.lt (by rw [z]; exact hb)) (Nat.lt_irrefl _)
  · exact absurd (Nat.lt_of_lt_of_le (Heap.lt_size (I.pin p hp).1) (by rw [z]; exact hb)) (Nat.lt_irrefl _)
structure Turn (P : Program) (w : World) (K : PySem.W.Frag) (tg : Expr) (J : It) (fp : List Addr) (it : Addr) (tn : Nat → Heap → Prop) : Prop where
  mem : it ∈ fp
  obj : ∀ i h, tn i h → ∀ b ∈ fp, ∃ o, h.get? b = some o ∧ ∀ v, o.data ≠ .cell v
  keep : ∀ i h h', tn i h → (∀ b ∈ fp, ∀ o, h.get? b = some o → h'.get? b = some o) → tn i h'
  item : ∀ (X : Cx), X.prog = P → X.w = w → X.K = K → X.calm = true → ∀ (i : Nat) (pins : List (Addr × Obj)) (s : Shared) (σ : St) (H : Hp) (E : Value → Shared → Prop), Inv X pins σ H s → (∀ b ∈ fp, FpOk X pins H b) → tn i s.heap → J.go i H →
    wpAny (model P w) X.A (pyNext (.ref it)) (fun r s1 => ∃ u, r = some u ∧
      wpAny (model P w) X.A (letOwnedTupleGo tg (.ref it) u) (fun _ s2 => ∃ x H', Inv X pins σ H' s2 ∧ RelV x u ∧ J.yld i H x H' ∧ tn (i + 1) s2.heap ∧ ∀ b ∈ fp, H' b = none) E s1) E s
  done : ∀ (X : Cx), X.prog = P → X.w = w → X.K = K → X.calm = true → ∀ (i : Nat) (pins : List (Addr × Obj)) (s : Shared) (σ : St) (H : Hp) (E : Value → Shared → Prop), Inv X pins σ H s → (∀ b ∈ fp, FpOk X pins H b) → tn i s.heap → J.stop i H →
    wpAny (model P w) X.A (pyNext (.ref it)) (fun r s1 => r = none ∧ Inv X pins σ H s1) E s
  self : ∀ (A : Around) (i : Nat) (s : Shared) (Q : Value → Shared → Prop) (E : Value → Shared → Prop), tn i s.heap → Q (.ref it) s → wpAny (model P w) A (pyIter (.ref it)) Q E s
abbrev TI := St → Hp → (It → Hp → Prop) → Prop
def PIE (X : Cx) (pins : List (Addr × Obj)) (σ : St) (tg : Expr) (R : It → Hp → Prop) (itv : Value) (s2 : Shared) : Prop :=
  ∃ (it : Addr) (fp : List Addr) (tn : Nat → Heap → Prop) (J : It) (H' : Hp), itv = .ref it ∧ Inv X pins σ H' s2 ∧ Turn X.prog X.w X.K tg J fp it tn ∧ tn 0 s2.heap ∧ (∀ b ∈ fp, FpOk X pins H' b) ∧ R J H'
def PI (X : Cx) (tg iter : Expr) (wi : TI) : Prop :=
  ∀ (pins : List (Addr × Obj)) (s : Shared) (σ : St) (H : Hp) (R : It → Hp → Prop), Inv X pins σ H s → wi σ H R →
    wpAny (model X.prog X.w) X.A (eval iter X.env) (fun v s1 => wpAny (model X.prog X.w) X.A (pyIter v) (PIE X pins σ tg R) X.xe s1) X.xe s
theorem go_of {M : Model} {A : Around} {E : Value → Shared → Prop} {s : Shared} {tg : Expr} {it : Addr} {u : Value} {o : Obj} {n : String} {vs : Array Value} {Q : Unit → Shared → Prop} (ho : s.heap.get? it = some o) (hc : o.cls = .type n) (hd : o.data = .fields vs)
    (hn : ["enumerate", "zip", "dict_itemiterator", "dict_reverseitemiterator", "odict_iterator", "itertools.zip_longest", "itertools.pairwise"].contains n = false) (hQ : Q () s) : wpAny M A (letOwnedTupleGo tg (.ref it) u) Q E s := by
  unfold letOwnedTupleGo
  cases tg <;> first
    | exact wpAny_pure hQ
    | (cases u <;> first
        | exact wpAny_pure hQ
        | (refine wpAny_bind (wpAny_load ho ?_)
           rw [hc, hd]
           show wpAny M A (if (["enumerate", "zip", "dict_itemiterator", "dict_reverseitemiterator", "odict_iterator", "itertools.zip_longest", "itertools.pairwise"].contains n && vs[0]? == some (rawInt _)) = true then _ else _) Q E s
           rw [if_neg (by intro h; rw [hn, Bool.false_and] at h; cases h)]
           exact wpAny_pure hQ))
def Itl (K : PySem.W.Frag) (a : Addr) : It :=
  ⟨fun i H => ∃ xs x, SqL K H a xs ∧ xs[i]? = some x, fun i H x H' => H' = H ∧ ∀ xs, SqL K H a xs → xs[i]? = some x, fun i H => ∃ xs, SqL K H a xs ∧ xs.length ≤ i⟩
def Itr (lo : Int) (n : Nat) : It := ⟨fun i _ => i < n, fun i H x H' => H' = H ∧ x = .int (lo + i), fun i _ => n ≤ i⟩
theorem turn_list {P : Program} {w : World} {K : PySem.W.Frag} {tg : Expr} (a it : Addr) : Turn P w K tg (Itl K a) [it] it (fun i h => h.IsListIter it a i) where
  mem := by simp
  obj := fun i h st b hb => by
    have e : b = it := by simpa using hb
    subst e
    obtain ⟨o, e, c, d⟩ := st
    exact ⟨o, e, fun v z => by rw [d] at z; cases z⟩
  keep := fun i h h' st k => st.at fun o e => k it (by simp) o e
  item := by
    intro X hP hw hK hc i pins s σ H E I hf st hg
    subst hP hw hK
    obtain ⟨xs, x, hq, hx⟩ := hg
    obtain ⟨its, rv, p, hz⟩ := I.list hq
    obtain ⟨u, hu, ru⟩ := rv.get hx
    obtain ⟨f0, f1, f2, f3, f4, f5⟩ := hf it (by simp)
    refine wpAny_pyNext_list_item st p.isList (x := u) (by simpa using hu) fun h' st' sb => ?_
    have I1 : Inv X pins σ H { s with heap := h' } := I.turned (t' := s.toks) (fun b o hb e => (sb.2 b hb).trans e) f0 f1 f3 f4 f5
    obtain ⟨o, e, c, d⟩ := id st'
    exact ⟨u, rfl, go_of (s := { s with heap := h' }) e c d (by decide) ⟨x, H, I1, ru, ⟨rfl, fun ys hy => by rw [I.list_inj hy hq]; exact hx⟩, st', fun b hb => (hf b hb).1⟩⟩
  done := by
    intro X hP hw hK hc i pins s σ H E I hf st hg
    subst hP hw hK
    obtain ⟨xs, hq, hx⟩ := hg
    obtain ⟨its, rv, p, hz⟩ := I.list hq
    obtain ⟨f0, f1, f2, f3, f4, f5⟩ := hf it (by simp)
    have hl := rv.length
    exact wpAny_pyNext_list_end (I.ok.hd hc) st p.isList (by simp; omega) fun h' eb => ⟨rfl, I.turned (t' := s.toks) (fun b o hb e => eb b o hb e) f0 f1 f3 f4 f5⟩
  self := fun _ _ _ _ _ st h => wpAny_pyIter_listiter st h
theorem turn_range {P : Program} {w : World} {K : PySem.W.Frag} {tg : Expr} (it : Addr) (lo : Int) (n : Nat) : Turn P w K tg (Itr lo n) [it] it (fun i h => IsRangeIter h it (lo + (i : Nat) * 1) ((n : Int) - (i : Nat)) 1) where
  mem := by simp
  obj := fun i h st b hb => by
    have e : b = it := by simpa using hb
    subst e
    exact ⟨_, st, fun v z => by
      have z' : Data.fields _ = Data.cell v := z
      cases z'⟩
  keep := fun i h h' st k => k it (by simp) _ st
  item := by
    intro X hP hw hK hc i pins s σ H E I hf st hg
    subst hP hw hK
    obtain ⟨f0, f1, f2, f3, f4, f5⟩ := hf it (by simp)
    have W := Walks.range (prog := X.prog) (w := X.w) (I.ok.hd hc) it lo 1 n
    refine W.item i s _ _ hg st fun v h' tk hv st' kk => ?_
    obtain ⟨t, rfl⟩ := hv
    have I1 : Inv X pins σ H { s with heap := h', toks := tk } := I.turned (fun b o hb e => kk b o (by simpa using hb) e) f0 f1 f3 f4 f5
    refine ⟨_, rfl, go_of (s := { s with heap := h', toks := tk }) (n := "range_iterator") st' rfl rfl (by decide) ⟨.int (lo + i), H, I1, ⟨t, ?_⟩, ⟨rfl, rfl⟩, st', fun b hb => (hf b hb).1⟩⟩
    rw [Int.mul_one]
  done := by
    intro X hP hw hK hc i pins s σ H E I hf st hg
    subst hP hw hK
    obtain ⟨f0, f1, f2, f3, f4, f5⟩ := hf it (by simp)
    exact wpAny_pyNext_range_end (I.ok.hd hc) st (by have : n ≤ i := hg; omega) fun h' eb => ⟨rfl, I.turned (t' := s.toks) (fun b o hb e => eb b o hb e) f0 f1 f3 f4 f5⟩
  self := fun _ _ _ _ _ st h => wpAny_pyIter_rangeiter st h
end L2
namespace L2
open PySem PySem.Spec PyProof.Rows
section
variable {X : Cx} {tg : Expr}
def iList (K : PySem.W.Frag) (tl : TE) : TI := fun σ H R => tl σ H fun x H1 => ∃ a, x = .ref a ∧ (∃ xs, SqL K H1 a xs) ∧ R (Itl K a) H1
theorem pi_list {l : Expr} {tl : TE} (hl : PE X l tl) : PI X tg l (iList X.K tl) := by
  intro pins s σ H R I h
  refine thn (hl pins s σ H _ I h) fun v s1 ⟨x, H1, I1, r1, q1⟩ => ?_
  obtain ⟨a, e, ⟨xs, hq⟩, q⟩ := q1
  subst e
  cases r1
  obtain ⟨its, rv, p, hz⟩ := I1.list hq
  refine wpAny_pyIter_list p.isList ?_
  refine ⟨s1.heap.objs.size, [s1.heap.objs.size], _, _, H1, rfl, I1.kept (t' := s1.toks) fun b o e => Heap.get?_push_of_some _ e, turn_list a _, ⟨_, Heap.get?_push_size _ rfl, rfl, rfl⟩, fun b hb => ?_, q⟩
  have e : b = s1.heap.objs.size := by simpa using hb
  subst e
  exact I1.fpOk (Nat.le_refl _) (I1.hok.fresh (Nat.le_refl _))
theorem range_it {pins : List (Addr × Obj)} {σ : St} {H : Hp} {s : Shared} {R : It → Hp → Prop} {E : Value → Shared → Prop} {lo hi : Int} {t u v : Tok} {tk : Nat} (I : Inv X pins σ H s) (h1 : -(2 ^ 62) ≤ lo) (h2 : lo < 2 ^ 62) (h3 : -(2 ^ 62) ≤ hi) (h4 : hi < 2 ^ 62)
    (q : R (Itr lo (hi - lo).toNat) H) : wpAny (model X.prog X.w) X.A (pyIter (.ref s.heap.objs.size)) (PIE X pins σ tg R) E { s with heap := s.heap.push { cls := .type "range", data := .fields #[.int lo t, .int hi u, .int 1 v] }, toks := tk } := by
  refine wpAny_pyIter_range (IsRange.new ..) (small_one h1 h2 h3 h4) ?_
  have I1 : Inv X pins σ H { s with heap := s.heap.push { cls := .type "range", data := .fields #[.int lo t, .int hi u, .int 1 v] }, toks := tk } := I.kept fun b o e => Heap.get?_push_of_some _ e
  refine ⟨(s.heap.push { cls := .type "range", data := .fields #[.int lo t, .int hi u, .int 1 v] }).objs.size, [(s.heap.push { cls := .type "range", data := .fields #[.int lo t, .int hi u, .int 1 v] }).objs.size], _, _, H, rfl,
    I1.kept (t' := tk) fun b o e => Heap.get?_push_of_some _ e, turn_range _ lo (hi - lo).toNat, ?_, fun b hb => ?_, q⟩
  · have e1 : lo + ((0 : Nat) : Int) * 1 = lo := by simp
    have e2 : (((hi - lo).toNat : Nat) : Int) - ((0 : Nat) : Int) = Builtin.Range.rangeSize lo hi 1 := by rw [rangeSize_one]; split <;> omega
    show IsRangeIter _ _ (lo + ((0 : Nat) : Int) * 1) ((((hi - lo).toNat : Nat) : Int) - ((0 : Nat) : Int)) 1
    rw [e1, e2]
    exact Heap.get?_push_size _ rfl
  · have e : b = (s.heap.push { cls := .type "range", data := .fields #[.int lo t, .int hi u, .int 1 v] }).objs.size := by simpa using hb
    subst e
    exact I1.fpOk (Nat.le_refl _) (I1.hok.fresh (Nat.le_refl _))
def iRng1 (ta : TA) : TI := fun σ H R => ta σ H fun vs H1 => ∃ j : Int, vs = [.int j] ∧ -(2 ^ 62) ≤ j ∧ j < 2 ^ 62 ∧ R (Itr 0 j.toNat) H1
def iRng2 (ta : TA) : TI := fun σ H R => ta σ H fun vs H1 => ∃ i j : Int, vs = [.int i, .int j] ∧ (-(2 ^ 62) ≤ i ∧ i < 2 ^ 62 ∧ -(2 ^ 62) ≤ j ∧ j < 2 ^ 62) ∧ R (Itr i (j - i).toNat) H1
theorem pi_range1 {a : Expr} {ta : TA} {p pos : Pos} (hg : Gl X "range") (hm : X.mg "range" = none) (ha : PA X [a] ta) (hs : starEach [a] X.env = [(false, eval a X.env)] := by rfl) : PI X tg (.Call (.Name "range" p) [a] [] pos) (iRng1 ta) := by
  intro pins s σ H R I h
  refine Call_ (ld_blt I hg hm boot_range (PyProof.Rows.callWith_type1 (thn (ha pos pins s σ H _ I h) fun us s1 ⟨vs, H1, I1, r1, q1⟩ => ?_) hs rfl))
  obtain ⟨j, e, q1, q2, q⟩ := q1
  subst e
  cases r1 with
  | cons r rr =>
    cases rr
    obtain ⟨t, rfl⟩ := r
    exact call_range_1 (range_it I1 (by omega) (by omega) q1 q2 (by simpa using q))
theorem pi_range2 {a b : Expr} {ta : TA} {p pos : Pos} (hg : Gl X "range") (hm : X.mg "range" = none) (ha : PA X [a, b] ta) (hs : starEach [a, b] X.env = [(false, eval a X.env), (false, eval b X.env)] := by rfl) (hs2 : starEach [b] X.env = [(false, eval b X.env)] := by rfl) :
    PI X tg (.Call (.Name "range" p) [a, b] [] pos) (iRng2 ta) := by
  intro pins s σ H R I h
  refine Call_ (ld_blt I hg hm boot_range (PyProof.Rows.callWith_type1 (thn (ha pos pins s σ H _ I h) fun us s1 ⟨vs, H1, I1, r1, q1⟩ => ?_) (by rw [hs, hs2]) (by rw [hs2]; rfl)))
  obtain ⟨i, j, e, ⟨q1, q2, q3, q4⟩, q⟩ := q1
  subst e
  cases r1 with
  | cons r rr =>
    cases rr with
    | cons r' rr =>
      cases rr
      obtain ⟨t, rfl⟩ := r
      obtain ⟨t', rfl⟩ := r'
      exact call_range_2 (range_it I1 q1 q2 q3 q4 q)
def tFor (wi : TI) (g : TG) (tb : TS) : TS := fun D σ H => wi σ H fun J H1 => ∃ W : Nat → Nat → St → Hp → Prop, (∃ m, W 0 m σ H1) ∧ ∀ i m σ H, W i m σ H →
  (J.stop i H ∧ D.nx σ H) ∨ (J.go i H ∧ ∃ N : St → Hp → Prop, (∀ σ' H', N σ' H' → ∃ m', m' < m ∧ W (i + 1) m' σ' H') ∧ ∀ x H', J.yld i H x H' → g x σ H' fun σ2 H2 => tb { D with nx := N, ct := N, bk := D.nx } σ2 H2)
def pinsAt (fp : List Addr) (h : Heap) : List (Addr × Obj) := fp.filterMap fun b => (h.get? b).map fun o => (b, o)
theorem mem_pinsAt {fp : List Addr} {h : Heap} {b : Addr} {o : Obj} (hb : b ∈ fp) (e : h.get? b = some o) : (b, o) ∈ pinsAt fp h := List.mem_filterMap.mpr ⟨b, hb, by rw [e]; rfl⟩
theorem of_pinsAt {fp : List Addr} {h : Heap} {p : Addr × Obj} (hp : p ∈ pinsAt fp h) : p.1 ∈ fp ∧ h.get? p.1 = some p.2 := by
  obtain ⟨b, hb, e⟩ := List.mem_filterMap.mp hp
  cases q : h.get? b with
  | none => rw [q] at e; cases e
  | some o =>
    rw [q] at e
    have e' : (b, o) = p := Option.some.inj e
    subst e'
    exact ⟨hb, q⟩
theorem Inv.pinned {pins : List (Addr × Obj)} {σ : St} {H : Hp} {s : Shared} {fp : List Addr} (I : Inv X pins σ H s) (hf : ∀ b ∈ fp, FpOk X pins H b) (ho : ∀ b ∈ fp, ∃ o, s.heap.get? b = some o ∧ ∀ v, o.data ≠ .cell v) : Inv X (pins ++ pinsAt fp s.heap) σ H s :=
  I.pins_of fun p hp => (List.mem_append.mp hp).elim (fun z => I.pin p (List.mem_append_right _ z)) fun z => by
    obtain ⟨hb, e⟩ := of_pinsAt z
    obtain ⟨f0, f1, f2, _⟩ := hf p.1 hb
    obtain ⟨o, e', d⟩ := ho p.1 hb
    rw [e] at e'; cases e'
    exact ⟨e, f0, f1, f2, d⟩
theorem Inv.unpinned {pins pl : List (Addr × Obj)} {σ : St} {H : Hp} {s : Shared} (I : Inv X (pins ++ pl) σ H s) : Inv X pins σ H s := I.pins_of fun p hp => I.pin p (List.mem_append_right _ (List.mem_append_left _ hp))
theorem ps_for {iter : Expr} {body : List Stmt} {wi : TI} {g : TG} {tb : TS} {pos : Pos} (hp : PassesOwn (model X.prog X.w) X.A X.env X.xe) (hc : X.calm = true) (hi : PI X tg iter wi) (hg : PG X tg g) (hb : PSs X body tb)
    (hs : ∀ x, foldedSetIterable iter X.env x = pure x := by intro _; rfl) : PS X (.For tg iter body [] pos) (tFor wi g tb) := by
  intro pins s σ H D I h
  refine wpAny_For (thn (hi pins s σ H _ I h) fun v s1 h1 => thn h1 fun itv s2 h2 => ?_) hs
  obtain ⟨it, fp, tn, J, H2, e, I2, T, st2, f2, W, ⟨m0, w0⟩, turn⟩ := h2
  subst e
  have stat : ∀ {H' : Hp}, (∀ b ∈ fp, H' b = none) → ∀ b ∈ fp, FpOk X pins H' b := fun hn b hb => ⟨hn b hb, (f2 b hb).2⟩
  refine codeAny_forLoop_any (fun n s' => ∃ i σ' H', Inv X pins σ' H' s' ∧ tn i s'.heap ∧ (∀ b ∈ fp, H' b = none) ∧ W i n σ' H') ?_ m0 ⟨0, σ, H2, I2, st2, fun b hb => (f2 b hb).1, w0⟩
  rintro n s3 ⟨i, σ3, H3, I3, st3, fr3, w3⟩
  rcases turn i n σ3 H3 w3 with ⟨stop, qn⟩ | ⟨go, N, hN, step⟩
  · refine wpAny_passesOwn hp (thn (T.done X rfl rfl rfl hc i pins s3 σ3 H3 X.xe I3 (stat fr3) st3 stop) fun r s4 ⟨hr, I4⟩ => ?_)
    subst hr
    exact wpAny_execs_nil ⟨σ3, H3, I4, qn⟩
  · refine wpAny_passesOwn hp (thn (T.item X rfl rfl rfl hc i pins s3 σ3 H3 X.xe I3 (stat fr3) st3 go) fun r s4 ⟨u, hr, h4⟩ => ?_)
    subst hr
    refine wpAny_passesOwn hp (thn h4 fun _ s5 ⟨x, H5, I5, r5, y5, st5, fr5⟩ => ?_)
    have I5' := I5.pinned (stat fr5) (T.obj _ _ st5)
    refine wpAny_passesOwn hp (thn (hg _ s5 σ3 H5 x u _ I5' r5 (step x H5 y5)) fun _ s6 ⟨σ6, H6, I6, q6⟩ => ?_)
    refine wpAny_passesOwn hp (thn (hb _ s6 σ6 H6 _ I6 q6) fun f s7 q7 => ?_)
    have again : ∀ {σ7 : St} {H7 : Hp}, Inv X (pins ++ pinsAt fp s5.heap) σ7 H7 s7 → N σ7 H7 → ∃ m, m < n ∧ ∃ i σ' H', Inv X pins σ' H' s7 ∧ tn i s7.heap ∧ (∀ b ∈ fp, H' b = none) ∧ W i m σ' H' := fun {σ7 H7} I7 n7 => by
      obtain ⟨m', hm, w7⟩ := hN σ7 H7 n7
      refine ⟨m', hm, i + 1, σ7, H7, I7.unpinned, T.keep _ _ _ st5 fun b hb o e => (I7.pin (b, o) (List.mem_append_right _ (List.mem_append_right _ (mem_pinsAt hb e)))).1, fun b hb => ?_, w7⟩
      obtain ⟨o, e, d⟩ := T.obj _ _ st5 b hb
      exact (I7.pin (b, o) (List.mem_append_right _ (List.mem_append_right _ (mem_pinsAt hb e)))).2.1
    cases f with
    | next => obtain ⟨σ7, H7, I7, n7⟩ := q7; exact again I7 n7
    | cont => obtain ⟨σ7, H7, I7, n7⟩ := q7; exact again I7 n7
    | brk => obtain ⟨σ7, H7, I7, q7⟩ := q7; exact ⟨σ7, H7, I7.unpinned, q7⟩
    | ret v => obtain ⟨x7, σ7, H7, I7, r7, q7⟩ := q7; exact ⟨x7, σ7, H7, I7.unpinned, r7, q7⟩
end
theorem for_list {K : PySem.W.Frag} {a : Addr} {xs : List V} {g : TG} {tb : TS} {D : Ends} {σ : St} {H : Hp} (Pv : Nat → St → Hp → Prop) (h0 : Pv 0 σ H) (hl : ∀ i σ H, i ≤ xs.length → Pv i σ H → SqL K H a xs)
    (hs : ∀ i x σ H, xs[i]? = some x → Pv i σ H → g x σ H fun σ2 H2 => tb { D with nx := Pv (i + 1), ct := Pv (i + 1), bk := D.nx } σ2 H2) (hd : ∀ σ H, Pv xs.length σ H → D.nx σ H) :
    ∃ W : Nat → Nat → St → Hp → Prop, (∃ m, W 0 m σ H) ∧ ∀ i m σ H, W i m σ H →
      ((Itl K a).stop i H ∧ D.nx σ H) ∨ ((Itl K a).go i H ∧ ∃ N : St → Hp → Prop, (∀ σ' H', N σ' H' → ∃ m', m' < m ∧ W (i + 1) m' σ' H') ∧ ∀ x H', (Itl K a).yld i H x H' → g x σ H' fun σ2 H2 => tb { D with nx := N, ct := N, bk := D.nx } σ2 H2) := by
  refine ⟨fun i m σ H => m = xs.length - i ∧ i ≤ xs.length ∧ Pv i σ H, ⟨xs.length, by simp, Nat.zero_le _, h0⟩, ?_⟩
  rintro i m σ H ⟨rfl, hi, p⟩
  have q := hl i σ H hi p
  by_cases hlt : i < xs.length
  · refine .inr ⟨⟨xs, xs[i], q, by simp [hlt]⟩, Pv (i + 1), fun σ' H' p' => ⟨xs.length - (i + 1), by omega, rfl, hlt, p'⟩, fun x H' y => ?_⟩
    obtain ⟨e, y⟩ := y
    subst e
    exact hs i x σ _ (y xs q) p
  · have e : i = xs.length := by omega
    subst e
    exact .inl ⟨⟨xs, q, Nat.le_refl _⟩, hd σ H p⟩
theorem for_range {lo : Int} {n : Nat} {g : TG} {tb : TS} {D : Ends} {σ : St} {H : Hp} (Pv : Nat → St → Hp → Prop) (h0 : Pv 0 σ H)
    (hs : ∀ i σ H, i < n → Pv i σ H → g (.int (lo + i)) σ H fun σ2 H2 => tb { D with nx := Pv (i + 1), ct := Pv (i + 1), bk := D.nx } σ2 H2) (hd : ∀ σ H, Pv n σ H → D.nx σ H) :
    ∃ W : Nat → Nat → St → Hp → Prop, (∃ m, W 0 m σ H) ∧ ∀ i m σ H, W i m σ H →
      ((Itr lo n).stop i H ∧ D.nx σ H) ∨ ((Itr lo n).go i H ∧ ∃ N : St → Hp → Prop, (∀ σ' H', N σ' H' → ∃ m', m' < m ∧ W (i + 1) m' σ' H') ∧ ∀ x H', (Itr lo n).yld i H x H' → g x σ H' fun σ2 H2 => tb { D with nx := N, ct := N, bk := D.nx } σ2 H2) := by
  refine ⟨fun i m σ H => m = n - i ∧ i ≤ n ∧ Pv i σ H, ⟨n, by simp, Nat.zero_le _, h0⟩, ?_⟩
  rintro i m σ H ⟨rfl, hi, p⟩
  by_cases hlt : i < n
  · refine .inr ⟨hlt, Pv (i + 1), fun σ' H' p' => ⟨n - (i + 1), by omega, rfl, hlt, p'⟩, fun x H' y => ?_⟩
    obtain ⟨e, y⟩ := y
    subst e y
    exact hs i σ _ hlt p
  · have e : i = n := by omega
    subst e
    exact .inl ⟨Nat.le_refl _, hd σ H p⟩
end L2
namespace L2
open PySem PySem.Spec PyProof.Rows
abbrev R2 := V → V → Hp → VK → Prop
def OpR (X : Cx) (f : Value → Value → Sem Value) (r : R2) : Prop :=
  ∀ (pins : List (Addr × Obj)) (s : Shared) (σ : St) (H : Hp) (x y : V) (v u : Value) (Q : VK), Inv X pins σ H s → RelV x v → RelV y u → r x y H Q →
    wpAny (model X.prog X.w) X.A (f v u) (EP X pins σ Q) X.xe s
def UnR (X : Cx) (f : Value → Sem Value) (r : V → Hp → VK → Prop) : Prop :=
  ∀ (pins : List (Addr × Obj)) (s : Shared) (σ : St) (H : Hp) (x : V) (v : Value) (Q : VK), Inv X pins σ H s → RelV x v → r x H Q →
    wpAny (model X.prog X.w) X.A (f v) (EP X pins σ Q) X.xe s
def CallR (X : Cx) (f : Value) (r : List V → Hp → VK → Prop) : Prop :=
  ∀ (pins : List (Addr × Obj)) (s : Shared) (σ : St) (H : Hp) (xs : List V) (us : List Value) (Q : VK), Inv X pins σ H s → Vals xs us → r xs H Q →
    wpAny (model X.prog X.w) X.A (call f us) (EP X pins σ Q) X.xe s
def tOp (r : R2) (ta tb : TE) : TE := fun σ H Q => ta σ H fun x H1 => tb σ H1 fun y H2 => r x y H2 Q
def tUn (r : V → Hp → VK → Prop) (ta : TE) : TE := fun σ H Q => ta σ H fun x H1 => r x H1 Q
def rI (C : Int → Int → Prop) (g : Int → Int → V) : R2 := fun x y H Q => ∃ i j, x = .int i ∧ y = .int j ∧ C i j ∧ Q (g i j) H
def rI0 (g : Int → Int → V) : R2 := fun x y H Q => ∃ i j, x = .int i ∧ y = .int j ∧ Q (g i j) H
def rU (g : Int → V) : V → Hp → VK → Prop := fun x H Q => ∃ i, x = .int i ∧ Q (g i) H
section
variable {X : Cx} {a b c : Expr} {ta tb tc : TE} {pos : Pos}
theorem binT (ha : PE X a ta) (hb : PE X b tb) {pins : List (Addr × Obj)} {s : Shared} {σ : St} {H : Hp} {R : V → V → Hp → Prop} (I : Inv X pins σ H s)
    (h : ta σ H fun x H1 => tb σ H1 fun y H2 => R x y H2) {Q : Value → Shared → Prop} {f : Value → Value → Sem Value}
    (hf : ∀ v u s2 x y H2, Inv X pins σ H2 s2 → RelV x v → RelV y u → R x y H2 → wpAny (model X.prog X.w) X.A (f v u) Q X.xe s2) :
    wpAny (model X.prog X.w) X.A (eval a X.env) (fun v s₁ => wpAny (model X.prog X.w) X.A (eval b X.env) (fun u s₂ => wpAny (model X.prog X.w) X.A (f v u) Q X.xe s₂) X.xe s₁) X.xe s := by
  refine thn (ha pins s σ H _ I h) fun v s1 ⟨x, H1, I1, r1, q1⟩ => ?_
  refine thn (hb pins s1 σ H1 _ I1 q1) fun u s2 ⟨y, H2, I2, r2, q2⟩ => ?_
  exact hf v u s2 x y H2 I2 r1 r2 q2
theorem pe_op {op : Operator} {r : R2} (ho : OpR X (binaryOp op) r) (ha : PE X a ta) (hb : PE X b tb) : PE X (.BinOp a op b pos) (tOp r ta tb) := by
  intro pins s σ H Q I h
  exact wpAny_BinOp (binT ha hb I h fun v u s2 x y H2 I2 rx ry q => ho pins s2 σ H2 x y v u Q I2 rx ry q)
theorem pe_un {op : UnaryOp} {r : V → Hp → VK → Prop} (ho : UnR X (unaryOp op) r) (ha : PE X a ta) : PE X (.UnaryOp op a pos) (tUn r ta) := by
  intro pins s σ H Q I h
  exact UnaryOp_ (thn (ha pins s σ H _ I h) fun v s1 ⟨x, H1, I1, r1, q1⟩ => ho pins s1 σ H1 x v Q I1 r1 q1)
theorem opI {f : Value → Value → Sem Value} {C : Int → Int → Prop} {g : Int → Int → Int}
    (rule : ∀ (i j : Int) (t u : Tok) (s : Shared) (Q : Value → Shared → Prop) (E : Value → Shared → Prop), C i j → Q (.int (g i j) s.toks) { s with toks := s.toks + 1 } → wpAny (model X.prog X.w) X.A (f (.int i t) (.int j u)) Q E s) :
    OpR X f (rI C fun i j => .int (g i j)) := by
  intro pins s σ H x y v u Q I rx ry h
  obtain ⟨i, j, rfl, rfl, hc, q⟩ := h
  obtain ⟨t, rfl⟩ := rx
  obtain ⟨t', rfl⟩ := ry
  exact rule i j t t' s _ _ hc ⟨.int (g i j), H, I.tok _, ⟨_, rfl⟩, q⟩
theorem opI0 {f : Value → Value → Sem Value} {g : Int → Int → Int}
    (rule : ∀ (i j : Int) (t u : Tok) (s : Shared) (Q : Value → Shared → Prop) (E : Value → Shared → Prop), Q (.int (g i j) s.toks) { s with toks := s.toks + 1 } → wpAny (model X.prog X.w) X.A (f (.int i t) (.int j u)) Q E s) :
    OpR X f (rI0 fun i j => .int (g i j)) := by
  intro pins s σ H x y v u Q I rx ry h
  obtain ⟨i, j, rfl, rfl, q⟩ := h
  obtain ⟨t, rfl⟩ := rx
  obtain ⟨t', rfl⟩ := ry
  exact rule i j t t' s _ _ ⟨.int (g i j), H, I.tok _, ⟨_, rfl⟩, q⟩
theorem opB0 {f : Value → Value → Sem Value} {g : Int → Int → Bool}
    (rule : ∀ (i j : Int) (t u : Tok) (s : Shared) (Q : Value → Shared → Prop) (E : Value → Shared → Prop), Q (.bool (g i j)) s → wpAny (model X.prog X.w) X.A (f (.int i t) (.int j u)) Q E s) :
    OpR X f (rI0 fun i j => .bl (g i j)) := by
  intro pins s σ H x y v u Q I rx ry h
  obtain ⟨i, j, rfl, rfl, q⟩ := h
  obtain ⟨t, rfl⟩ := rx
  obtain ⟨t', rfl⟩ := ry
  exact rule i j t t' s _ _ ⟨.bl (g i j), H, I, rfl, q⟩
def CDiv (i j : Int) : Prop := 0 < j ∧ j < 1073741824
def CPow (i j : Int) : Prop := 0 ≤ j ∧ j ≤ 1000000 ∧ i.natAbs < 2 ^ 64
def CMul (i j : Int) : Prop := (-(2 ^ 64) < i ∧ i < 2 ^ 64) ∨ (-(2 ^ 64) < j ∧ j < 2 ^ 64)
theorem CMul.ok {i j : Int} (h : CMul i j) : IntMulOk i j := by
  rcases h with ⟨h1, h2⟩ | ⟨h1, h2⟩
  · exact .of_left (intBits_le_64 h1 h2)
  · exact .of_right (intBits_le_64 h1 h2)
theorem two_pow_nn (k : Nat) : (0 : Int) ≤ 2 ^ k := by
  rw [two_pow_cast]
  exact Int.natCast_nonneg _
theorem op_add : OpR X (binaryOp .Add) (rI0 fun i j => .int (i + j)) := opI0 fun _ _ _ _ _ _ _ q => add_int q
theorem op_sub : OpR X (binaryOp .Sub) (rI0 fun i j => .int (i - j)) := opI0 fun _ _ _ _ _ _ _ q => sub_int q
theorem op_mul : OpR X (binaryOp .Mult) (rI CMul fun i j => .int (i * j)) := opI fun _ _ _ _ _ _ _ hc q => mul_int q hc.ok
theorem op_fdiv : OpR X (binaryOp .FloorDiv) (rI CDiv fun i j => .int (i / j)) := opI fun i j _ _ _ _ _ hc q => by
  have h1 : (0 : Int) < j := hc.1
  have h2 : j < 1073741824 := hc.2
  exact floordiv_int (by omega) (by rw [Int.fdiv_eq_ediv_of_nonneg i (by omega)]; exact q) (.inl (PyProof.noPylong_small (by omega)))
theorem op_mod : OpR X (binaryOp .Mod) (rI (fun _ j => 0 < j) fun i j => .int (i % j)) := opI fun i j _ _ _ _ _ hc q => by
  have h1 : (0 : Int) < j := hc
  exact mod_int' (by omega) (by rw [Int.fmod_eq_emod_of_nonneg i (by omega)]; exact q)
theorem op_shl : OpR X (binaryOp .LShift) (rI CPow fun i j => .int (i * 2 ^ j.toNat)) := opI fun _ _ _ _ _ _ _ hc q => lshift_int_small hc.1 hc.2.1 hc.2.2 q
theorem op_shr : OpR X (binaryOp .RShift) (rI (fun _ j => 0 ≤ j) fun i j => .int (i / 2 ^ j.toNat)) := opI fun i j _ _ _ _ _ hc q =>
  rshift_int hc (by rw [Int.fdiv_eq_ediv_of_nonneg i (two_pow_nn _)]; exact q)
theorem op_and : OpR X (binaryOp .BitAnd) (rI0 fun i j => .int (Builtin.bitAnd i j)) := opI0 fun _ _ _ _ _ _ _ q => and_int q
theorem op_or : OpR X (binaryOp .BitOr) (rI0 fun i j => .int (Builtin.bitOr i j)) := opI0 fun _ _ _ _ _ _ _ q => or_int q
theorem unI {f : Value → Sem Value} {g : Int → Int}
    (rule : ∀ (i : Int) (t : Tok) (s : Shared) (Q : Value → Shared → Prop) (E : Value → Shared → Prop), Q (.int (g i) s.toks) { s with toks := s.toks + 1 } → wpAny (model X.prog X.w) X.A (f (.int i t)) Q E s) :
    UnR X f (rU fun i => .int (g i)) := by
  intro pins s σ H x v Q I rx h
  obtain ⟨i, rfl, q⟩ := h
  obtain ⟨t, rfl⟩ := rx
  exact rule i t s _ _ ⟨.int (g i), H, I.tok _, ⟨_, rfl⟩, q⟩
theorem un_neg : UnR X (unaryOp .USub) (rU fun i => .int (-i)) := unI fun _ _ _ _ _ q => neg_int q
end
def scal : V → V → Bool
  | .non, .non => true | .non, .int _ => true | .int _, .non => true | .non, .bl _ => true | .bl _, .non => true | .non, .str _ => true | .str _, .non => true
  | .int _, .int _ => true | .bl _, .bl _ => true | .str _, .str _ => true | .byt _, .byt _ => true
  | .int _, .str _ => true | .str _, .int _ => true | .bl _, .str _ => true | .str _, .bl _ => true
  | _, _ => false
def rEq : R2 := fun x y H Q => scal x y = true ∧ Q (.bl (decide (x = y))) H
def rNe : R2 := fun x y H Q => scal x y = true ∧ Q (.bl (!decide (x = y))) H
theorem dec_int {i j : Int} : decide (V.int i = V.int j) = (i == j) := by
  rw [Bool.eq_iff_iff]
  simp
theorem dec_bl {i j : Bool} : decide (V.bl i = V.bl j) = (i == j) := by
  rw [Bool.eq_iff_iff]
  simp
theorem dec_str {i j : Str} : decide (V.str i = V.str j) = (i == j) := by
  rw [Bool.eq_iff_iff]
  simp
theorem dec_byt {i j : Array UInt8} : decide (V.byt i = V.byt j) = (i.toList == j.toList) := by
  rw [Bool.eq_iff_iff]
  cases i
  cases j
  simp
section
variable {X : Cx} {a b c : Expr} {ta tb tc : TE} {pos : Pos}
theorem fin_bl {pins : List (Addr × Obj)} {σ : St} {H : Hp} {s : Shared} {Q : VK} {k k' : Bool} (I : Inv X pins σ H s) (q : Q (.bl k) H) (e : k = k') : EP X pins σ Q (.bool k') s := by
  subst e
  exact ⟨.bl k, H, I, rfl, q⟩
theorem op_eq : OpR X (compareOp .Eq) rEq := by
  intro pins s σ H x y v u Q I rx ry h
  obtain ⟨hs, q⟩ := h
  cases x with
  | non =>
    cases rx
    cases y with
    | non => cases ry; exact PySem.EqNone.eq_none_none (fin_bl I q (by simp))
    | bl j => cases ry; exact PySem.EqNone.eq_none_bool (fin_bl I q (by simp))
    | int j => obtain ⟨t', rfl⟩ := ry; exact PySem.EqNone.eq_none_int (fin_bl I q (by simp))
    | str j => obtain ⟨t', rfl⟩ := ry; exact PySem.EqNone.eq_none_str (fin_bl I q (by simp))
    | _ => exact absurd (show false = true from hs) Bool.false_ne_true
  | bl i =>
    cases rx
    cases y with
    | non => cases ry; exact PySem.EqNone.eq_bool_none (fin_bl I q (by simp))
    | bl j => cases ry; exact eq_bool (fin_bl I q dec_bl)
    | str j => obtain ⟨t', rfl⟩ := ry; exact PySem.EqMixed.eq_bool_str (fin_bl I q (by simp))
    | _ => exact absurd (show false = true from hs) Bool.false_ne_true
  | int i =>
    obtain ⟨t, rfl⟩ := rx
    cases y with
    | non => cases ry; exact PySem.EqNone.eq_int_none (fin_bl I q (by simp))
    | int j => obtain ⟨t', rfl⟩ := ry; exact eq_int (fin_bl I q dec_int)
    | str j => obtain ⟨t', rfl⟩ := ry; exact PySem.EqMixed.eq_int_str (fin_bl I q (by simp))
    | _ => exact absurd (show false = true from hs) Bool.false_ne_true
  | str i =>
    obtain ⟨t, rfl⟩ := rx
    cases y with
    | non => cases ry; exact PySem.EqNone.eq_str_none (fin_bl I q (by simp))
    | bl j => cases ry; exact PySem.EqMixed.eq_str_bool (fin_bl I q (by simp))
    | int j => obtain ⟨t', rfl⟩ := ry; exact PySem.EqMixed.eq_str_int (fin_bl I q (by simp))
    | str j => obtain ⟨t', rfl⟩ := ry; exact eq_str (fin_bl I q dec_str)
    | _ => exact absurd (show false = true from hs) Bool.false_ne_true
  | byt i =>
    obtain ⟨t, rfl⟩ := rx
    cases y with
    | byt j => obtain ⟨t', rfl⟩ := ry; exact PySem.W.eq_bytes (fin_bl I q dec_byt)
    | _ => exact absurd (show false = true from hs) Bool.false_ne_true
  | _ => cases y <;> exact absurd (show false = true from hs) Bool.false_ne_true
theorem op_ne : OpR X (compareOp .NotEq) rNe := by
  intro pins s σ H x y v u Q I rx ry h
  obtain ⟨hs, q⟩ := h
  cases x with
  | non =>
    cases rx
    cases y with
    | non => cases ry; exact PySem.EqNone.ne_none_none (fin_bl I q (by simp))
    | bl j => cases ry; exact PySem.EqNone.ne_none_bool (fin_bl I q (by simp))
    | int j => obtain ⟨t', rfl⟩ := ry; exact PySem.EqNone.ne_none_int (fin_bl I q (by simp))
    | str j => obtain ⟨t', rfl⟩ := ry; exact PySem.EqNone.ne_none_str (fin_bl I q (by simp))
    | _ => exact absurd (show false = true from hs) Bool.false_ne_true
  | bl i =>
    cases rx
    cases y with
    | non => cases ry; exact PySem.EqNone.ne_bool_none (fin_bl I q (by simp))
    | bl j => cases ry; exact ne_bool (fin_bl I q (congrArg not dec_bl))
    | str j => obtain ⟨t', rfl⟩ := ry; exact PySem.EqMixed.ne_bool_str (fin_bl I q (by simp))
    | _ => exact absurd (show false = true from hs) Bool.false_ne_true
  | int i =>
    obtain ⟨t, rfl⟩ := rx
    cases y with
    | non => cases ry; exact PySem.EqNone.ne_int_none (fin_bl I q (by simp))
    | int j => obtain ⟨t', rfl⟩ := ry; exact ne_int (fin_bl I q (congrArg not dec_int))
    | str j => obtain ⟨t', rfl⟩ := ry; exact PySem.EqMixed.ne_int_str (fin_bl I q (by simp))
    | _ => exact absurd (show false = true from hs) Bool.false_ne_true
  | str i =>
    obtain ⟨t, rfl⟩ := rx
    cases y with
    | non => cases ry; exact PySem.EqNone.ne_str_none (fin_bl I q (by simp))
    | bl j => cases ry; exact PySem.EqMixed.ne_str_bool (fin_bl I q (by simp))
    | int j => obtain ⟨t', rfl⟩ := ry; exact PySem.EqMixed.ne_str_int (fin_bl I q (by simp))
    | str j => obtain ⟨t', rfl⟩ := ry; exact ne_str (fin_bl I q (congrArg not dec_str))
    | _ => exact absurd (show false = true from hs) Bool.false_ne_true
  | byt i =>
    obtain ⟨t, rfl⟩ := rx
    cases y with
    | byt j => obtain ⟨t', rfl⟩ := ry; exact PySem.W.ne_bytes (fin_bl I q (congrArg not dec_byt))
    | _ => exact absurd (show false = true from hs) Bool.false_ne_true
  | _ => cases y <;> exact absurd (show false = true from hs) Bool.false_ne_true
theorem op_lt : OpR X (compareOp .Lt) (rI0 fun i j => .bl (decide (i < j))) := opB0 fun _ _ _ _ _ _ _ q => lt_int q
theorem op_le : OpR X (compareOp .LtE) (rI0 fun i j => .bl (decide (i ≤ j))) := opB0 fun _ _ _ _ _ _ _ q => le_int q
theorem op_gt : OpR X (compareOp .Gt) (rI0 fun i j => .bl (decide (j < i))) := opB0 fun _ _ _ _ _ _ _ q => gt_int q
theorem op_isN : OpR X (compareOp .Is) (fun x y H Q => y = .non ∧ Q (.bl (decide (x = .non))) H) := by
  intro pins s σ H x y v u Q I rx ry h
  obtain ⟨rfl, q⟩ := h
  cases ry
  refine is_none_gen (fin_bl I q ?_)
  cases x <;> first
    | (cases rx; rfl)
    | (obtain ⟨t, rfl⟩ := rx; rfl)
theorem nomark (b : Expr) {op : CmpOp} (h : op ≠ .In := by decide) (h2 : op ≠ .NotIn := by decide) : behindInMarks op b = false := by
  have e1 : (op == CmpOp.In) = false := by cases op <;> first | rfl | exact absurd rfl h
  have e2 : (op == CmpOp.NotIn) = false := by cases op <;> first | rfl | exact absurd rfl h2
  cases b <;> simp [behindInMarks, e1, e2]
theorem pe_cmpR {op : CmpOp} {r : R2} (ho : OpR X (compareOp op) r) (ha : PE X a ta) (hb : PE X b tb) (hm : behindInMarks op b = false) : PE X (.Compare a [op] [b] pos) (tOp r ta tb) := by
  intro pins s σ H Q I h
  exact wpAny_Compare1 (binT ha hb I h fun v u s2 x y H2 I2 rx ry q => ho pins s2 σ H2 x y v u Q I2 rx ry q) hm
def tTest (t : TE) : TT := fun σ H Q => t σ H fun x H' => ∃ k, x = .bl k ∧ Q k H'
theorem pt_cmpR {op : CmpOp} {r : R2} (ho : OpR X (compareOp op) r) (ha : PE X a ta) (hb : PE X b tb) (hm : behindInMarks op b = false) : PT X (.Compare a [op] [b] pos) (tTest (tOp r ta tb)) := by
  intro pins s σ H Q I h
  refine wpAny_isTrue_Compare1 (thn (ha pins s σ H _ I h) fun v s1 ⟨x, H1, I1, r1, q1⟩ => thn (hb pins s1 σ H1 _ I1 q1) fun u s2 ⟨y, H2, I2, r2, q2⟩ =>
    thn (ho pins s2 σ H2 x y v u _ I2 r1 r2 q2) fun c s3 ⟨z, H3, I3, r3, k, e, q3⟩ => ?_) hm
  subst e
  cases r3
  exact wpAny_truthy_bool ⟨H3, I3, q3⟩
theorem line63 : (sizeLine : Nat) < 2 ^ 63 := by rw [sizeLine_eq]; decide
theorem vals1 {x : V} {us : List Value} (r : Vals [x] us) : ∃ u, us = [u] ∧ RelV x u := by
  cases r with
  | cons r1 r2 => cases r2; exact ⟨_, rfl, r1⟩
theorem vals2 {x y : V} {us : List Value} (r : Vals [x, y] us) : ∃ u w', us = [u, w'] ∧ RelV x u ∧ RelV y w' := by
  cases r with
  | cons r1 r2 =>
    cases r2 with
    | cons r3 r4 => cases r4; exact ⟨_, _, rfl, r1, r3⟩
theorem call_max2 (hc : X.calm = true) : CallR X (.builtin "max") (fun xs H Q => ∃ i j, xs = [.int i, .int j] ∧ Q (.int (if j > i then j else i)) H) := by
  intro pins s σ H xs us Q I r h
  obtain ⟨i, j, rfl, q⟩ := h
  obtain ⟨u, w', rfl, ⟨t, rfl⟩, ⟨t', rfl⟩⟩ := vals2 r
  refine max_two_ints (I.ok.hd hc) fun h' tk k => ⟨_, H, I.kept k, ?_, q⟩
  by_cases hj : j > i
  · rw [if_pos hj, if_pos hj]; exact ⟨_, rfl⟩
  · rw [if_neg hj, if_neg hj]; exact ⟨_, rfl⟩
end
end L2
namespace L2
open PySem PySem.Spec PyProof.Rows
structure ObjM (h : Heap) (x dx C : Addr) (mA : Str → Option Value) : Prop where
  obj : h.get? x = some (PySem.W.instObj C dx)
  ns : h.Ns1 dx mA
  ne : dx ≠ x
theorem lookIn_ns {h : Heap} {dx : Addr} {mA : Str → Option Value} (n : h.Ns1 dx mA) : ∃ od, h.get? dx = some od ∧ ∀ name, PySem.W.lookIn name od = some (mA name) := by
  obtain ⟨o, es, ep, ho, hd, hk, _, hm⟩ := n
  refine ⟨o, ho, fun name => ?_⟩
  have e := hm name
  unfold nsFind findBy at e
  rw [← Array.find?_toList] at e
  unfold PySem.W.lookIn
  rw [hd]
  dsimp only
  split
  · rename_i y q
    rw [q] at e
    exact congrArg some e
  · rename_i q
    rw [q] at e
    have a : es.toList.any (·.refKey) = false := by
      rw [List.any_eq_false]
      intro y hy
      obtain ⟨z, t, hkey⟩ := hk y (Array.mem_toList_iff.mp hy)
      simp [DictEntry.refKey, hkey]
    have a' : ¬ es.toList.any (·.refKey) = true := by rw [a]; exact Bool.false_ne_true
    rw [if_neg a']
    exact congrArg some e
theorem ObjM.look {h : Heap} {x dx C : Addr} {mA : Str → Option Value} (I : ObjM h x dx C mA) : ∃ od, PySem.W.InstAt h x (PySem.W.instObj C dx) C (some od) ∧ ∀ name, PySem.W.lookIn name od = some (mA name) :=
  let ⟨od, ho, hl⟩ := lookIn_ns I.ns
  ⟨od, ⟨I.obj, rfl, rfl, ho⟩, hl⟩
section
variable {prog : Program} {w : World} {A : Around} {E : Value → Shared → Prop} {s : Shared} {K : PySem.W.Frag} {x dx C f : Addr} {mA : Str → Option Value} {name : Str} {v : Value}
theorem get_map {expr : Bool} {Q : Value → Shared → Prop} (X : K.In s.heap) (I : ObjM s.heap x dx C mA) (hg : PySem.W.plainGet K C name = true) (hh : PySem.W.hasDictIn K C = true)
    (ha : PySem.W.findIn K (.ref C) name = some none) (hv : mA name = some v) (hv' : PySem.W.handedIn v = true) (h : Q v { s with toks := s.toks + 1 }) :
    wpAny (model prog w) A (getAttr (.ref x) name expr) Q E s := by
  obtain ⟨od, J, hl⟩ := I.look
  exact PySem.W.get_value X J (PySem.W.plainGet_of hg).1 (PySem.W.findObj_own hh ha rfl (by rw [hl, hv])) hv' h
theorem get_meth {pl : Sem Bool} {Q : Value × List Value → Shared → Prop} (X : K.In s.heap) (I : ObjM s.heap x dx C mA) (hg : PySem.W.plainGet K C name = true)
    (hf : PySem.W.findIn K (.ref C) name = some (some (.ref f))) (ht : PySem.W.isFn K (.ref f) = true) (hv : mA name = none) (h : Q (.ref f, [.ref x]) s) :
    wpAny (model prog w) A (getMethod (.ref x) name pl) Q E s := by
  obtain ⟨od, J, hl⟩ := I.look
  exact PySem.W.method_fn X J (PySem.W.plainGet_of hg).1 (PySem.W.plainGet_of hg).2 hf (beq_iff_eq.mp ht) (by show (PySem.W.lookIn name od).map (·.isSome) = some false; rw [hl, hv]; rfl) h
theorem set_map {ns : List Str} {Q : Unit → Shared → Prop} (X : K.In s.heap) (I : ObjM s.heap x dx C mA)
    (hs : PySem.W.findIn K (.ref C) "__setattr__" = some (some (.builtin "object.__setattr__"))) (hp : PySem.W.plainOver K C = true) (ht : PySem.W.takerIn K C name = some none) (hh : PySem.W.hasDictIn K C = true)
    (hw : PySem.Within mA ns) (hsz : ns.length ≤ sizeLine)
    (h : ∀ h', ObjM h' x dx C (fun y => if y = name then some v else mA y) → Heap.SameBut dx s.heap h' → Q () { s with heap := h', toks := s.toks + 2 }) :
    wpAny (model prog w) A (setAttr (.ref x) name v) Q E s := by
  obtain ⟨od, J, hl⟩ := I.look
  refine PySem.W.set_plain X J hs (PySem.W.osa_open (s := { s with toks := s.toks + 1 }) (r := none) X J hp ht fun b => ?_)
  obtain ⟨cd, hc, hd'⟩ := PySem.W.any_some hh
  have hx : s.heap.get? x = some ⟨.ref C, some dx, .plain, #[]⟩ := I.obj
  refine wpAny_bind (wpAny_pure (wpAny_bind (wpAny_bind (wpAny_loadPart hx (wpAny_bind (PySem.W.Looks.here (s := { s with toks := s.toks + 1 }) (PySem.W.looks_clsIn X hc) ?_))))))
  rw [hd']
  refine wpAny_pure (a := some dx) (wpAny_bind (wpAny_pure (wpAny_bind ?_)))
  refine wpAny_nsSet1 (s := { s with toks := s.toks + 1 }) I.ns fun h' hn2 hs2 => ?_
  obtain ⟨oD, esD, epD, hoD, hdD, hcD⟩ := hn2.count (PySem.Within.cons name v hw)
  refine wpAny_bind (wpAny_lookBehind hoD (by rw [hdD]; exact pastItsLine_dict (Nat.le_trans hcD (by rw [List.length_cons]; omega))) ?_)
  exact wpAny_pure (h _ ⟨(hs2.2 _ (Ne.symm I.ne)).trans I.obj, hn2, I.ne⟩ hs2)
theorem make_map {R : Result → Shared → Prop} {vs : List Value} {kw : List (Str × Value)} (X : K.In s.heap) (hm : PySem.W.makesIn K C = true)
    (hi : PySem.W.findIn K (.ref C) "__init__" = some (some (.ref f))) (hf : PySem.W.typeIn K (.ref f) = some (.type "function"))
    (h : codeAny (model prog w) (A.under (.builtin "type.__call__" ⟨.ref C :: vs, kw⟩)) (.call (.ref f) ⟨.ref (s.heap.objs.size + 1) :: vs, kw⟩) (PySem.W.InitBack (s.heap.objs.size + 1) R)
      { s with heap := (s.heap.push PySem.W.emptyDict).push (PySem.W.instObj C s.heap.objs.size) }) :
    codeAny (model prog w) A (.call (.ref C) ⟨vs, kw⟩) R s := by
  obtain ⟨hh, g, d, t, os⟩ := s
  exact PySem.W.make_core (PySem.W.makes_of X hm) (PySem.W.looks_findIn X hi) (fun self => PySem.W.bind_fn X self hf) (.inl rfl) h
end
def putF (f : Str) (v : V) : List (Str × V) → List (Str × V)
  | [] => [(f, v)]
  | (g, x) :: r => if g = f then (g, v) :: r else (g, x) :: putF f v r
theorem lookup_putF (f g : Str) (v : V) : ∀ fs : List (Str × V), (putF f v fs).lookup g = if g = f then some v else fs.lookup g
  | [] => by
    show List.lookup g [(f, v)] = _
    by_cases h : g = f
    · have hb : (g == f) = true := beq_iff_eq.mpr h
      simp only [List.lookup, hb, if_pos h]
    · have hb : (g == f) = false := beq_eq_false_iff_ne.mpr h
      simp only [List.lookup, hb, if_neg h]
  | (k, x) :: r => by
    have ih := lookup_putF f g v r
    rw [show putF f v ((k, x) :: r) = (if k = f then (k, v) :: r else (k, x) :: putF f v r) from rfl]
    by_cases hk : k = f
    · rw [if_pos hk]
      by_cases h : g = k
      · have hb : (g == k) = true := beq_iff_eq.mpr h
        simp only [List.lookup, hb, if_pos (h.trans hk)]
      · have hb : (g == k) = false := beq_eq_false_iff_ne.mpr h
        simp only [List.lookup, hb, if_neg (fun e : g = f => h (e.trans hk.symm))]
    · rw [if_neg hk]
      by_cases h : g = k
      · have hb : (g == k) = true := beq_iff_eq.mpr h
        simp only [List.lookup, hb, if_neg (fun e : g = f => hk (h.symm.trans e))]
      · have hb : (g == k) = false := beq_eq_false_iff_ne.mpr h
        simp only [List.lookup, hb]
        exact ih
theorem keys_putF (f : Str) (v : V) : ∀ fs : List (Str × V), f ∈ (putF f v fs).map (·.1) ∧ ∀ g, g ∈ fs.map (·.1) → g ∈ (putF f v fs).map (·.1)
  | [] => ⟨by simp [putF], fun g h => by simp at h⟩
  | (k, x) :: r => by
    obtain ⟨i1, i2⟩ := keys_putF f v r
    rw [show putF f v ((k, x) :: r) = (if k = f then (k, v) :: r else (k, x) :: putF f v r) from rfl]
    by_cases hk : k = f
    · rw [if_pos hk]
      subst hk
      exact ⟨by simp, fun g h => by simpa using h⟩
    · rw [if_neg hk]
      refine ⟨?_, fun g h => ?_⟩
      · rw [List.map_cons]
        exact List.mem_cons_of_mem _ i1
      · rw [List.map_cons] at h ⊢
        rcases List.mem_cons.mp h with e | e
        · exact List.mem_cons.mpr (.inl e)
        · exact List.mem_cons_of_mem _ (i2 g e)
theorem length_putF (f : Str) (v : V) : ∀ fs : List (Str × V), (putF f v fs).length ≤ fs.length + 1
  | [] => by simp [putF]
  | (k, x) :: r => by
    have ih := length_putF f v r
    rw [show putF f v ((k, x) :: r) = (if k = f then (k, v) :: r else (k, x) :: putF f v r) from rfl]
    by_cases hk : k = f
    · rw [if_pos hk, List.length_cons, List.length_cons]; omega
    · rw [if_neg hk, List.length_cons, List.length_cons]; omega
theorem RelO.some_of {v : V} {o : Option Value} (r : RelO (some v) o) : ∃ u, o = some u ∧ RelV v u := by
  cases o with
  | none => exact (show False from r).elim
  | some u => exact ⟨u, rfl, r⟩
theorem RelO.none_of {o : Option Value} (r : RelO none o) : o = none := by
  cases o with
  | none => rfl
  | some u => exact (show False from r).elim
theorem handed_of {v : V} {u : Value} (r : RelV v u) : PySem.W.handedIn u = true := by
  cases v with
  | non => cases (show u = Value.none from r); rfl
  | bl b => cases (show u = Value.bool b from r); rfl
  | int i => obtain ⟨t, e⟩ := (show ∃ t, u = Value.int i t from r); cases e; rfl
  | str x => obtain ⟨t, e⟩ := (show ∃ t, u = Value.str x t from r); cases e; rfl
  | byt b => obtain ⟨t, e⟩ := (show ∃ t, u = Value.bytes b t from r); cases e; rfl
  | flt b => obtain ⟨t, e⟩ := (show ∃ t, u = Value.float b t from r); cases e; rfl
  | ref a => cases (show u = Value.ref a from r); rfl
  | ty n => cases (show u = Value.type n from r); rfl
section
variable {P : Program} {w : World} {H H' : Hp} {h h' : Heap} {a C dx : Addr} {fs fs' : List (Str × V)}
theorem ins_get (hok : HOk P w H h) (e : H a = some (.ins C dx fs)) : ∃ mA, ObjM h a dx C mA ∧ (∀ f, RelO (fs.lookup f) (mA f)) ∧ PySem.Within mA (fs.map (·.1)) ∧ fs.length ≤ 1000 ∧ H dx = some (.own a) := by
  obtain ⟨d, z, ne, ob, mA, n, r, q⟩ := (show ObjOk P w H h a (.ins C dx fs) from hok a _ e)
  exact ⟨mA, ⟨ob, n, ne⟩, r, q, z, d⟩
end
structure Cls (K : PySem.W.Frag) (C : Addr) : Prop where
  pg : PySem.W.plainGet K C Str.empty = true
  hd : PySem.W.hasDictIn K C = true
  po : PySem.W.plainOver K C = true
  sa : PySem.W.findIn K (.ref C) "__setattr__" = some (some (.builtin "object.__setattr__"))
theorem Cls.get {K : PySem.W.Frag} {C : Addr} (c : Cls K C) (f : Str) : PySem.W.plainGet K C f = true := c.pg
def NoAttr (K : PySem.W.Frag) (C : Addr) (f : Str) : Prop := PySem.W.findIn K (.ref C) f = some none
theorem NoAttr.taker {K : PySem.W.Frag} {C : Addr} {f : Str} (n : NoAttr K C f) : PySem.W.takerIn K C f = some none := by
  unfold PySem.W.takerIn
  rw [show PySem.W.findIn K (.ref C) f = some none from n]
  rfl
structure Meth (K : PySem.W.Frag) (C : Addr) (m : Str) (f : Addr) : Prop where
  at_ : PySem.W.findIn K (.ref C) m = some (some (.ref f))
  fn : PySem.W.isFn K (.ref f) = true
  kp : PySem.W.keepIn K (.ref f) = true
section
variable {X : Cx} {pins : List (Addr × Obj)} {σ : St} {H : Hp} {s : Shared} {a C dx : Addr} {fs : List (Str × V)} {f : Str} {v : V} {A : Around} {E : Value → Shared → Prop}
theorem getattr_ok {b : Bool} {Q : Value → Shared → Prop} (I : Inv X pins σ H s) (e : H a = some (.ins C dx fs)) (c : Cls X.K C) (n : NoAttr X.K C f) (l : fs.lookup f = some v)
    (h : ∀ u s', Inv X pins σ H s' → RelV v u → Q u s') : wpAny (model X.prog X.w) A (getAttr (.ref a) f b) Q E s := by
  obtain ⟨mA, O, r, _, _, _⟩ := ins_get I.hok e
  obtain ⟨u, hu, ru⟩ := RelO.some_of (v := v) (o := mA f) (by rw [← l]; exact r f)
  exact get_map I.kIn O (c.get f) c.hd n hu (handed_of ru) (h u _ (I.tok _) ru)
theorem getmeth_ok {m : Str} {g : Addr} {pl : Sem Bool} {Q : Value × List Value → Shared → Prop} (I : Inv X pins σ H s) (e : H a = some (.ins C dx fs)) (c : Cls X.K C) (k : Meth X.K C m g) (l : fs.lookup m = none)
    (h : Q (.ref g, [.ref a]) s) : wpAny (model X.prog X.w) A (getMethod (.ref a) m pl) Q E s := by
  obtain ⟨mA, O, r, _, _, _⟩ := ins_get I.hok e
  have hn : mA m = none := RelO.none_of (by rw [← l]; exact r m)
  exact get_meth I.kIn O (c.get m) k.at_ k.fn hn h
theorem setattr_ok {y : V} {u : Value} {Q : Unit → Shared → Prop} (I : Inv X pins σ H s) (e : H a = some (.ins C dx fs)) (c : Cls X.K C) (n : NoAttr X.K C f) (hl : fs.length < 1000) (ry : RelV y u)
    (h : ∀ s', Inv X pins σ (upd H a (.ins C dx (putF f y fs))) s' → Q () s') : wpAny (model X.prog X.w) A (setAttr (.ref a) f u) Q E s := by
  obtain ⟨mA, O, r, wi, _, ho⟩ := ins_get I.hok e
  have hz : (fs.map (·.1)).length ≤ sizeLine := by rw [List.length_map, sizeLine_eq]; omega
  refine set_map I.kIn O c.sa c.po n.taker c.hd wi hz fun h' O' sb => h _ ?_
  have hd : ∃ o, h'.get? dx = some o := let ⟨o, _, _, e', _⟩ := O'.ns; ⟨o, e'⟩
  refine I.write (x := a) (e := dx) (by rw [e]; exact True.intro) (.inr ho) (fun b q hb z => (sb.2 b hb).trans z) hd ?_
  refine ⟨by rw [upd_ne O.ne]; exact ho, ?_, O.ne, O'.obj, _, O'.ns, fun g => ?_, fun g hg => ?_⟩
  · have := length_putF f y fs; omega
  · show RelO ((putF f y fs).lookup g) (if g = f then some u else mA g)
    rw [lookup_putF]
    by_cases q : g = f
    · rw [if_pos q, if_pos q]; exact ry
    · rw [if_neg q, if_neg q]; exact r g
  · by_cases q : g = f
    · rw [q]; exact (keys_putF f y fs).1
    · refine (keys_putF f y fs).2 g (wi g fun z => hg ?_)
      show (if g = f then some u else mA g) = none
      rw [if_neg q]; exact z
theorem Inv.made (I : Inv X pins σ H s) : Inv X pins σ (upd (upd H s.heap.objs.size (.own (s.heap.objs.size + 1))) (s.heap.objs.size + 1) (.ins C s.heap.objs.size []))
    { s with heap := (s.heap.push PySem.W.emptyDict).push (PySem.W.instObj C s.heap.objs.size) } := by
  have e1 : (s.heap.push PySem.W.emptyDict).get? s.heap.objs.size = some PySem.W.emptyDict := Heap.get?_push_size s.heap rfl
  have e2 : ((s.heap.push PySem.W.emptyDict).push (PySem.W.instObj C s.heap.objs.size)).get? (s.heap.objs.size + 1) = some (PySem.W.instObj C s.heap.objs.size) := by
    have := Heap.get?_push_size (s.heap.push PySem.W.emptyDict) (o := PySem.W.instObj C s.heap.objs.size) rfl
    rwa [Heap.size_push] at this
  have e3 : (s.heap.push PySem.W.emptyDict).Ns s.heap.objs.size (fun _ => none) := ⟨PySem.W.emptyDict, #[], _, e1, rfl, (fun e he => absurd he (by simp)), fun _ => rfl⟩
  have I1 := I.laid (a := s.heap.objs.size) (o := .own (s.heap.objs.size + 1)) (h' := s.heap.push PySem.W.emptyDict) (t' := s.toks) (fun b u q => Heap.get?_push_of_some _ q) (Nat.le_refl _) ⟨_, e1⟩
  refine I1.laid (a := s.heap.objs.size + 1) (o := .ins C s.heap.objs.size []) (t' := s.toks) (fun b u q => Heap.get?_push_of_some _ q) (Nat.le_of_eq (Heap.size_push _ _)) ?_
  have ne : s.heap.objs.size ≠ s.heap.objs.size + 1 := Nat.ne_of_lt (Nat.lt_succ_self _)
  refine ⟨by rw [upd_ne ne, upd_same], Nat.zero_le _, ne, e2, fun _ => none, (Heap.Ns1.of_empty e3).at fun o q => Heap.get?_push_of_some _ q, fun _ => True.intro, fun y hy => absurd rfl hy⟩
theorem attr_of {prog : Program} {w : World} {env : Env} {e : Expr} {f : Str} {pos : Pos} {s : Shared} {Q : Value → Shared → Prop} (hb : attributeBase e f env (eval e env) = eval e env)
    (h : wpAny (model prog w) A (eval e env) (fun o s₁ => wpAny (model prog w) A (getAttr o f true) Q E s₁) E s) : wpAny (model prog w) A (eval (.Attribute e f pos) env) Q E s :=
  Attribute_any_ h (by rw [arm_eval_Attribute, hb])
end
def tFld (K : PySem.W.Frag) (ta : TE) (f : Str) : TE := fun σ H Q => ta σ H fun x H1 => ∃ a C dx fs v, x = .ref a ∧ H1 a = some (.ins C dx fs) ∧ Cls K C ∧ NoAttr K C f ∧ fs.lookup f = some v ∧ Q v H1
def sFld (K : PySem.W.Frag) (ta tv : TE) (f : Str) : TS := fun D σ H => tv σ H fun y H1 => ta σ H1 fun x H2 => ∃ a C dx fs, x = .ref a ∧ H2 a = some (.ins C dx fs) ∧ Cls K C ∧ NoAttr K C f ∧ fs.length < 1000 ∧
  D.nx σ (upd H2 a (.ins C dx (putF f y fs)))
def InOp (X : Cx) (op : Operator) (rd : V → V → Hp → VK → Prop) : Prop :=
  ∀ (pins : List (Addr × Obj)) (s : Shared) (σ : St) (H : Hp) (x y : V) (u v : Value) (Q : VK), Inv X pins σ H s → RelV x u → RelV y v → rd x y H Q → wpAny (model X.prog X.w) X.A (inplaceOp op u v) (EP X pins σ Q) X.xe s
def sFldAug (K : PySem.W.Frag) (ta tv : TE) (rd : V → V → Hp → VK → Prop) (f : Str) : TS := fun D σ H => ta σ H fun x H1 => ∃ a C dx fs v, x = .ref a ∧ H1 a = some (.ins C dx fs) ∧ Cls K C ∧ NoAttr K C f ∧ fs.lookup f = some v ∧
  tv σ H1 fun y H2 => rd v y H2 fun z H3 => ∃ dx' fs', H3 a = some (.ins C dx' fs') ∧ fs'.length < 1000 ∧ D.nx σ (upd H3 a (.ins C dx' (putF f z fs')))
section
variable {X : Cx} {o e value : Expr} {f : Str} {pos pos' tpos : Pos} {ta tv : TE}
theorem pe_fld (he : PE X e ta) (hb : attributeBase e f X.env (eval e X.env) = eval e X.env) : PE X (.Attribute e f pos) (tFld X.K ta f) := by
  intro pins s σ H Q I h
  refine attr_of hb (thn (he pins s σ H _ I h) fun u s1 ⟨x, H1, I1, rx, a, C, dx, fs, v, ex, ea, c, n, l, q⟩ => ?_)
  subst ex
  obtain rfl : u = Value.ref a := rx
  exact getattr_ok I1 ea c n l fun u' s2 I2 ru => ⟨v, H1, I2, ru, q⟩
theorem ps_fld (ha : PE X o ta) (hv : PE X value tv) (hs : swapsWith value (some (.Attribute o f pos')) pos.line X.env = pure false) : PS X (.Assign [.Attribute o f pos'] value pos) (sFld X.K ta tv f) := by
  intro pins s σ H D I h
  refine plainObj_wpAny_Assign_Attribute (thn (hv pins s σ H _ I h) fun u s1 ⟨y, H1, I1, ry, q⟩ => thn (ha pins s1 σ H1 _ I1 q) fun ov s2 ⟨x, H2, I2, rx, a, C, dx, fs, ex, ea, c, n, l, q2⟩ => ?_) hs
  subst ex
  obtain rfl : ov = Value.ref a := rx
  exact setattr_ok I2 ea c n l ry fun s3 I3 => ⟨σ, _, I3, q2⟩
theorem ps_fldaug {op : Operator} {rd : V → V → Hp → VK → Prop} (ha : PE X o ta) (hv : PE X value tv) (hop : InOp X op rd) : PS X (.AugAssign (.Attribute o f tpos) op value pos) (sFldAug X.K ta tv rd f) := by
  intro pins s σ H D I h
  refine wpAny_AugAssign_AttributeAny (thn (ha pins s σ H _ I h) fun ov s1 ⟨x, H1, I1, rx, a, C, dx, fs, v, ex, ea, c, n, l, q⟩ => ?_)
  subst ex
  obtain rfl : ov = Value.ref a := rx
  refine getattr_ok I1 ea c n l fun u s2 I2 ru => thn (hv pins s2 σ H1 _ I2 q) fun w3 s3 ⟨y, H2, I3, ry, q3⟩ => thn (hop pins s3 σ H2 v y u w3 _ I3 ru ry q3) fun w4 s4 ⟨z, H3, I4, rz, dx', fs', ea', l', q4⟩ => ?_
  exact setattr_ok I4 ea' c n l' rz fun s5 I5 => ⟨σ, _, I5, q4⟩
def rAdd : V → V → Hp → VK → Prop := fun x y H Q => ∃ i j, x = .int i ∧ y = .int j ∧ Q (.int (i + j)) H
def rSub : V → V → Hp → VK → Prop := fun x y H Q => ∃ i j, x = .int i ∧ y = .int j ∧ Q (.int (i - j)) H
theorem in_add : InOp X .Add rAdd := by
  rintro pins s σ H x y u v Q I rx ry ⟨i, j, rfl, rfl, q⟩
  obtain ⟨t, rfl⟩ := (show ∃ t, u = Value.int i t from rx)
  obtain ⟨t', rfl⟩ := (show ∃ t', v = Value.int j t' from ry)
  exact PyProof.Rows.iadd_int ⟨.int (i + j), H, I.tok _, ⟨_, rfl⟩, q⟩
theorem in_sub : InOp X .Sub rSub := by
  rintro pins s σ H x y u v Q I rx ry ⟨i, j, rfl, rfl, q⟩
  obtain ⟨t, rfl⟩ := (show ∃ t, u = Value.int i t from rx)
  obtain ⟨t', rfl⟩ := (show ∃ t', v = Value.int j t' from ry)
  exact PyProof.Rows.isub_int ⟨.int (i - j), H, I.tok _, ⟨_, rfl⟩, q⟩
end
section
variable {X : Cx} {pins : List (Addr × Obj)} {σ : St} {H : Hp} {s : Shared} {A : Around} {E : Value → Shared → Prop} {Q : Value → Shared → Prop} {c : Value} {b : Bool}
end
end L2
namespace L2
open PySem PySem.Spec PyProof.Rows
structure Room (k : Nat) (A : Around) : Prop where
  hd : A.handled = none
  dp : A.depth + 3 * k + 5 < recursionLimit
  un : A.units + 16 * k + 200 < cLine
theorem Room.mono {j k : Nat} {A : Around} (r : Room k A) (h : j ≤ k) : Room j A := ⟨r.hd, by have := r.dp; omega, by have := r.un; omega⟩
theorem Room.deeper {k : Nat} {A : Around} (r : Room (k + 1) A) (env : Env) : Room k (A.deeper env) :=
  ⟨r.hd, by have := r.dp; show A.depth + 1 + 3 * k + 5 < _; omega, by have := r.un; show A.units + 3 + 16 * k + 200 < _; omega⟩
theorem make_depth {A : Around} {C : Addr} {us : List Value} {kw : List (Str × Value)} : (A.under (.builtin "type.__call__" ⟨.ref C :: us, kw⟩)).depth = A.depth + 1 := by
  first | rfl | simp [Around.under, Code.weight, Code.isCreation, Code.isGuard, Code.isCaller, Code.frames, Code.isFrame, guardIds]
theorem make_units {A : Around} {C : Addr} {us : List Value} {kw : List (Str × Value)} : (A.under (.builtin "type.__call__" ⟨.ref C :: us, kw⟩)).units = A.units + 1 := by
  first | rfl | simp [Around.under, Code.cUnits, Code.frames, Code.isFrame]
theorem Room.make {k : Nat} {A : Around} (r : Room (k + 1) A) (C : Addr) (us : List Value) (kw : List (Str × Value)) : Room k (A.under (.builtin "type.__call__" ⟨.ref C :: us, kw⟩)) :=
  ⟨r.hd, by have := r.dp; rw [make_depth]; omega, by have := r.un; rw [make_units]; omega⟩
theorem Room.depth {k : Nat} {A : Around} (r : Room k A) : A.depth < recursionLimit := by have := r.dp; omega
theorem Room.units {k : Nat} {A : Around} (r : Room k A) : A.units + 64 < cLine := by have := r.un; omega
def tNil : TA := fun _ H Q => Q [] H
def tCons (ta : TE) (tr : TA) : TA := fun σ H Q => ta σ H fun x H1 => tr σ H1 fun xs H2 => Q (x :: xs) H2
section
variable {X : Cx} {e : Expr} {es : List Expr} {te : TE} {t : TA} {pos : Pos}
theorem pa_nil : PA X [] tNil := fun _ _ _ _ H Q I h => Calls.spliced_nil ⟨[], H, I, .nil, h⟩
theorem pa_cons (ha : PE X e te) (hr : PA X es t) (hs : starEach (e :: es) X.env = (false, eval e X.env) :: starEach es X.env := by rfl) : PA X (e :: es) (tCons te t) := by
  intro pos pins s σ H Q I h
  rw [hs]
  show wpAny _ _ (spliced ((false, eval e X.env) :: backTo pos (starEach es X.env))) _ _ s
  refine Calls.spliced_cons (thn (ha pins s σ H _ I h) fun u s1 ⟨x, H1, I1, r1, q1⟩ => ?_)
  exact thn (hr pos pins s1 σ H1 _ I1 q1) fun us s2 ⟨xs, H2, I2, r2, q2⟩ => ⟨x :: xs, H2, I2, .cons r1 r2, q2⟩
def tTup (t : TA) : TE := fun σ H Q => t σ H fun xs H1 => xs.length ≤ sizeLine ∧ ∀ p, H1 p = none → Q (.ref p) (upd H1 p (.tup xs))
def tLst (t : TA) : TE := fun σ H Q => t σ H fun xs H1 => xs.length ≤ sizeLine ∧ ∀ p, H1 p = none → Q (.ref p) (upd H1 p (.lst xs))
theorem pe_tup {x1} (h : PA X es t) : PE X (.Tuple es x1 pos) (tTup t) := by
  intro pins s σ H Q I hq
  refine wpAny_Tuple_spliced (thn (h pos pins s σ H _ I hq) fun us s1 ⟨xs, H1, I1, r, z, q⟩ => ⟨by rw [← r.length]; exact z, ?_⟩)
  have hf : H1 s1.heap.objs.size = none := I1.hok.fresh (Nat.le_refl _)
  refine ⟨.ref s1.heap.objs.size, upd H1 s1.heap.objs.size (.tup xs), I1.laid (t' := s1.toks) (fun b u e => Heap.get?_push_of_some _ e) (Nat.le_refl _) ?_, rfl, q _ hf⟩
  exact ⟨z, us, r, ⟨_, Heap.get?_push_size _ rfl, rfl, _, rfl⟩⟩
theorem pe_lst (h : PA X es t) : PE X (.List es pos) (tLst t) := by
  intro pins s σ H Q I hq
  refine wpAny_List_spliced (thn (h pos pins s σ H _ I hq) fun us s1 ⟨xs, H1, I1, r, z, q⟩ => ⟨by rw [← r.length]; exact z, ?_⟩)
  have hf : H1 s1.heap.objs.size = none := I1.hok.fresh (Nat.le_refl _)
  refine ⟨.ref s1.heap.objs.size, upd H1 s1.heap.objs.size (.lst xs), I1.laid (t' := s1.toks) (fun b u e => Heap.get?_push_of_some _ e) (Nat.le_refl _) ?_, rfl, q _ hf⟩
  exact ⟨z, us, 0, r, Heap.get?_push_size _ rfl⟩
end
abbrev Sp := List V → Hp → VK → XK → Prop
abbrev CXT := List Env → Hp → Shared → XK → Value → Shared → Prop
structure Env0 (P : Program) (w : World) (K : PySem.W.Frag) (mg : Str → Option Value) (base : Heap) (A : Around) (outer : List Env) (s : Shared) (H : Hp) : Prop where
  frames : A.frames = some outer
  mod : Mod K mg base
  bs : ∀ b o, base.get? b = some o → s.heap.get? b = some o ∧ H b = none
  bsz : base.objs.size ≤ s.heap.objs.size
  funs : s.heap.FunFrames base outer
  frf : ∀ b ∈ frs outer, H b = none
  hok : HOk P w H s.heap
  bare : AllBare s.gens
def CE (outer : List Env) (P : Program) (w : World) (H : Hp) (s : Shared) (Q : VK) (u : Value) (s' : Shared) : Prop :=
  ∃ v H', s'.os = s.os ∧ AllBare s'.gens ∧ Un (frs outer) [] H H' s.heap s'.heap ∧ HOk P w H' s'.heap ∧ RelV v u ∧ Q v H'
def CR (CX : CXT) (outer : List Env) (P : Program) (w : World) (H : Hp) (s : Shared) (Q : VK) (E : XK) (r : Result) (s' : Shared) : Prop :=
  match r with
  | .ok (.ret u) => CE outer P w H s Q u s'
  | .ok _ => False
  | .error e => CX outer H s E e s'
structure FnOk (P : Program) (w : World) (K : PySem.W.Frag) (mg : Str → Option Value) (base : Heap) (CX : CXT) (k : Nat) (f : Addr) (fd : FuncData) (ps : List Str) (sp : Sp) : Prop where
  len : ∀ vs H Q E, sp vs H Q E → vs.length = ps.length
  run : ∀ (A : Around) (outer : List Env) (s : Shared) (H : Hp) (args : Args) (us : List Value) (vs : List V) (Q : VK) (E : XK), Room k A → Env0 P w K mg base A outer s H → BindsTo s fd args (ps.zip us) → Vals vs us → sp vs H Q E →
    codeAny (model P w) A (.call (.ref f) args) (CR CX outer P w H s Q E) s
theorem FnOk.mono {P : Program} {w : World} {K : PySem.W.Frag} {mg : Str → Option Value} {base : Heap} {CX : CXT} {j k : Nat} {f : Addr} {fd : FuncData} {ps : List Str} {sp : Sp} (F : FnOk P w K mg base CX j f fd ps sp) (h : j ≤ k) :
    FnOk P w K mg base CX k f fd ps sp := ⟨F.len, fun A outer s H args us vs Q E hr => F.run A outer s H args us vs Q E (hr.mono h)⟩
theorem Env0.make {P : Program} {w : World} {K : PySem.W.Frag} {mg : Str → Option Value} {base : Heap} {A : Around} {outer : List Env} {s : Shared} {H : Hp} (e : Env0 P w K mg base A outer s H) (C : Addr) (us : List Value) (kw : List (Str × Value)) :
    Env0 P w K mg base (A.under (.builtin "type.__call__" ⟨.ref C :: us, kw⟩)) outer s H := ⟨by first | exact e.frames | (simpa [Around.under, Code.envs, Code.isFrame, pushEnvs] using e.frames), e.mod, e.bs, e.bsz, e.funs, e.frf, e.hok, e.bare⟩
section
variable {X : Cx} {pins : List (Addr × Obj)} {σ : St} {H : Hp} {s s' : Shared}
theorem Inv.env0 (I : Inv X pins σ H s) : Env0 X.prog X.w X.K X.mg X.base X.A X.stack s H :=
  ⟨I.ok.frames, I.ok.mod, I.bs, Nat.le_trans I.ok.bsz I.sz, I.stack, I.stkFree, I.hok, I.bare⟩
theorem Inv.after {Q : VK} {u : Value} (I : Inv X pins σ H s) (h : CE X.stack X.prog X.w H s Q u s') : EP X pins σ Q u s' := by
  obtain ⟨v, H', os, bare, un, hok, r, q⟩ := h
  obtain ⟨hh, g, d, t, os'⟩ := s'
  obtain rfl : os' = s.os := os
  exact ⟨v, H', I.call (h' := hh) (g' := g) (d' := d) (t' := t) (ch := []) un hok bare (fun b z => absurd z (by simp)), r, q⟩
end
def tCall (sp : Sp) (dvs : List V) (E : XK) (t : TA) : TE := fun σ H Q => t σ H fun vs H1 => sp (vs ++ dvs) H1 Q E
def tMeth (C : Addr) (m : Str) (sp : Sp) (dvs : List V) (E : XK) (ta : TE) (t : TA) : TE := fun σ H Q => ta σ H fun x H1 => ∃ a dx fs, x = .ref a ∧ H1 a = some (.ins C dx fs) ∧ fs.lookup m = none ∧
  t σ H1 fun vs H2 => sp (x :: (vs ++ dvs)) H2 Q E
def tMake (C : Addr) (sp : Sp) (dvs : List V) (E : XK) (t : TA) : TE := fun σ H Q => t σ H fun vs H1 => ∀ x dx, H1 x = none → H1 dx = none → dx ≠ x →
  sp (.ref x :: (vs ++ dvs)) (upd (upd H1 dx (.own x)) x (.ins C dx [])) (fun v H2 => v = .non ∧ Q (.ref x) H2) E
def Binds (K : PySem.W.Frag) (fd : FuncData) (ps : List Str) (ds : List Value) : Prop :=
  ∀ (s : Shared) (us : List Value), K.In s.heap → (us ++ ds).length = ps.length → BindsTo s fd ⟨us, []⟩ (ps.zip (us ++ ds))
theorem Binds.all {K : PySem.W.Frag} {fd : FuncData} {ps : List Str} (h : ∀ us : List Value, us.length = ps.length → bindArgs fd ⟨us, []⟩ = pure (ps.zip us)) : Binds K fd ps [] := fun s us _ hl => by
  rw [List.append_nil] at hl ⊢
  exact .of_eq (h us hl)
def Passes (CX : CXT) (X : Cx) (E : XK) : Prop := ∀ (pins : List (Addr × Obj)) (σ : St) (H : Hp) (s : Shared) (e : Value) (s' : Shared), Inv X pins σ H s → CX X.stack H s E e s' → X.xe e s'
section
variable {X : Cx} {CX : CXT} {k : Nat} {f C : Addr} {fd : FuncData} {ps : List Str} {sp : Sp} {dvs : List V} {ds : List Value} {E : XK} {x m : Str} {p pos apos : Pos} {e o : Expr} {es : List Expr} {ta : TE} {t : TA}
theorem run_fn {pins : List (Addr × Obj)} {σ : St} {H : Hp} {s : Shared} {Q : VK} {us : List Value} {vs : List V} (F : FnOk X.prog X.w X.K X.mg X.base CX k f fd ps sp) (hr : Room k X.A) (hb : Binds X.K fd ps ds) (hd : Vals dvs ds) (hx : Passes CX X E)
    (I : Inv X pins σ H s) (r : Vals vs us) (h : sp (vs ++ dvs) H Q E) : wpAny (model X.prog X.w) X.A (call (.ref f) us) (EP X pins σ Q) X.xe s := by
  have r2 : Vals (vs ++ dvs) (us ++ ds) := r.append hd
  have hl : (us ++ ds).length = ps.length := by rw [← r2.length]; exact F.len _ _ _ _ h
  refine wpAny_call (codeAny_mono (F.run X.A X.stack s H ⟨us, []⟩ (us ++ ds) (vs ++ dvs) Q E hr I.env0 (hb s us I.kIn hl) r2 h) fun r s' hq => ?_)
  cases r with
  | error e => exact hx pins σ H s e s' I hq
  | ok fl =>
    cases fl with
    | ret u => exact I.after hq
    | next => exact False.elim hq
    | brk => exact False.elim hq
    | cont => exact False.elim hq
theorem pe_call (F : FnOk X.prog X.w X.K X.mg X.base CX k f fd ps sp) (hr : Room k X.A) (hg : Gl X x) (hm : X.mg x = some (.ref f)) (hk : PySem.W.keepIn X.K (.ref f) = true) (hb : Binds X.K fd ps ds) (hd : Vals dvs ds) (hx : Passes CX X E)
    (ha : PA X (e :: es) t) (hdb : (x == ("__debug__" : Str)) = false := by decide) (he : starEach (e :: es) X.env = (false, eval e X.env) :: starEach es X.env := by rfl) (hpl : (backTo pos (starEach es X.env)).any (·.1) = false := by rfl) :
    PE X (.Call (.Name x p) (e :: es) [] pos) (tCall sp dvs E t) := by
  intro pins s σ H Q I h
  refine wpAny_Call_Name_kw (ld_glob I hg hm ?_ hdb)
  refine PySem.W.callWith_K (h₀ := X.base) I.ok.mod.kin hk (thn (ha pos pins s σ H _ I h) fun us s1 ⟨vs, H1, I1, r, q⟩ => ⟨I1.kIn, ?_⟩) he hpl
  exact run_fn F hr hb hd hx I1 r q
theorem pe_meth0 {pl : Sem Bool} (he : PE X o ta) (c : Cls X.K C) (hm : Meth X.K C m f) (F : FnOk X.prog X.w X.K X.mg X.base CX k f fd ps sp) (hr : Room k X.A) (hb : Binds X.K fd ps ds) (hd : Vals dvs ds) (hx : Passes CX X E)
    (ht : eval (.Call (.Attribute o m apos) [] [] pos) X.env = (do
      let ov ← eval o X.env
      standAt apos.atName
      let (f, first) ← holding [ov] (getMethod ov m pl)
      callWith pos f first (backTo pos (starEach [] X.env)) (backToKw pos (keywordEach [] X.env))) := by rfl) :
    PE X (.Call (.Attribute o m apos) [] [] pos) (tMeth C m sp dvs E ta tNil) := by
  intro pins s σ H Q I h
  refine PySem.W.methodCall_KW (pl := pl) (thn (he pins s σ H _ I h) fun u s1 ⟨x, H1, I1, rx, a, dx, fs, ex, ea, l, q⟩ => ?_) ht
  subst ex
  obtain rfl : u = Value.ref a := rx
  refine getmeth_ok I1 ea c hm l ?_
  exact PySem.W.callWith_K0 (first := [.ref a]) I1.kIn hm.kp (run_fn (us := [.ref a]) (vs := [.ref a]) F hr hb hd hx I1 (.cons rfl .nil) q)
structure Mk (K : PySem.W.Frag) (C f : Addr) : Prop where
  makes : PySem.W.makesIn K C = true
  init : PySem.W.findIn K (.ref C) "__init__" = some (some (.ref f))
  fn : PySem.W.isFn K (.ref f) = true
  kp : PySem.W.keepIn K (.ref C) = true
theorem run_make {pins : List (Addr × Obj)} {σ : St} {H : Hp} {s : Shared} {Q : VK} {us : List Value} {vs : List V} (M : Mk X.K C f) (F : FnOk X.prog X.w X.K X.mg X.base CX k f fd ps sp) (hr : Room (k + 1) X.A) (hb : Binds X.K fd ps ds) (hd : Vals dvs ds)
    (hx : Passes CX X E) (I : Inv X pins σ H s) (r : Vals vs us)
    (h : ∀ x dx, H x = none → H dx = none → dx ≠ x → sp (.ref x :: (vs ++ dvs)) (upd (upd H dx (.own x)) x (.ins C dx [])) (fun v H2 => v = .non ∧ Q (.ref x) H2) E) :
    wpAny (model X.prog X.w) X.A (call (.ref C) us) (EP X pins σ Q) X.xe s := by
  have hq := h (s.heap.objs.size + 1) s.heap.objs.size (I.hok.fresh (Nat.le_succ _)) (I.hok.fresh (Nat.le_refl _)) (Nat.ne_of_lt (Nat.lt_succ_self _))
  have I2 := Inv.made (C := C) I
  have r2 : Vals (V.ref (s.heap.objs.size + 1) :: (vs ++ dvs)) (Value.ref (s.heap.objs.size + 1) :: (us ++ ds)) := .cons rfl (r.append hd)
  have hl : (Value.ref (s.heap.objs.size + 1) :: us ++ ds).length = ps.length := by
    have e := r2.length
    rw [F.len _ _ _ _ hq] at e
    exact e.symm
  refine wpAny_call (make_map (f := f) I.kIn M.makes M.init (beq_iff_eq.mp M.fn) (codeAny_mono (F.run _ X.stack _ _ ⟨Value.ref (s.heap.objs.size + 1) :: us, []⟩ (Value.ref (s.heap.objs.size + 1) :: (us ++ ds)) _ _ E (hr.make C us [])
    (I2.env0.make C us []) (hb _ (Value.ref (s.heap.objs.size + 1) :: us) I2.kIn hl) r2 hq) fun r s' hq' => ?_))
  cases r with
  | error e => exact hx pins σ _ _ e s' I2 hq'
  | ok fl =>
    cases fl with
    | ret u =>
      obtain ⟨v, H', I3, rv, ev, q3⟩ := I2.after hq'
      subst ev
      exact ⟨rv, ⟨V.ref (s.heap.objs.size + 1), H', I3, rfl, q3⟩⟩
    | next => exact False.elim hq'
    | brk => exact False.elim hq'
    | cont => exact False.elim hq'
theorem pe_make (M : Mk X.K C f) (F : FnOk X.prog X.w X.K X.mg X.base CX k f fd ps sp) (hr : Room (k + 1) X.A) (hg : Gl X x) (hm : X.mg x = some (.ref C)) (hb : Binds X.K fd ps ds) (hd : Vals dvs ds) (hx : Passes CX X E)
    (ha : PA X (e :: es) t) (hdb : (x == ("__debug__" : Str)) = false := by decide) (he : starEach (e :: es) X.env = (false, eval e X.env) :: starEach es X.env := by rfl) (hpl : (backTo pos (starEach es X.env)).any (·.1) = false := by rfl) :
    PE X (.Call (.Name x p) (e :: es) [] pos) (tMake C sp dvs E t) := by
  intro pins s σ H Q I h
  refine wpAny_Call_Name_kw (ld_glob I hg hm ?_ hdb)
  refine PySem.W.callWith_K (h₀ := X.base) I.ok.mod.kin M.kp (thn (ha pos pins s σ H _ I h) fun us s1 ⟨vs, H1, I1, r, q⟩ => ⟨I1.kIn, ?_⟩) he hpl
  exact run_make M F hr hb hd hx I1 r q
theorem pe_make0 (M : Mk X.K C f) (F : FnOk X.prog X.w X.K X.mg X.base CX k f fd ps sp) (hr : Room (k + 1) X.A) (hg : Gl X x) (hm : X.mg x = some (.ref C)) (hb : Binds X.K fd ps ds) (hd : Vals dvs ds) (hx : Passes CX X E)
    (hdb : (x == ("__debug__" : Str)) = false := by decide) : PE X (.Call (.Name x p) [] [] pos) (tMake C sp dvs E tNil) := by
  intro pins s σ H Q I h
  refine wpAny_Call_Name_kw (ld_glob I hg hm ?_ hdb)
  exact PySem.W.callWith_K0 I.kIn M.kp (run_make (us := []) M F hr hb hd hx I .nil h)
end
section
variable {X : Cx} {CX : CXT} {k : Nat} {f C : Addr} {fd : FuncData} {ps ks : List Str} {sp : Sp} {E : XK} {x m : Str} {p pos apos kpos : Pos} {e o : Expr} {es : List Expr} {kws : List Keyword} {te ta : TE} {t tk : TA} {nm : Option Str}
variable {g : List Value → List Value → List Value} {gV : List V → List V → List V}
end
structure FnScope (N P : List Str) (sc : Scope) : Prop where
  kind : sc.kind = .function
  co : sc.isCoroutine = false
  gen : sc.isGenerator = false
  nd : N.Nodup
  pre : N.take P.length = P
  par : ∀ x ∈ P, sc.names.lookup x = some .local ∨ sc.names.lookup x = some .cell
  nofree : ∀ y ∈ sc.names, y.2 ≠ .free
theorem bindL_out {kindOf : Str → Option NameKind} {x : Str} : ∀ {binds : List (Str × Value)} {m : Str → Option Value}, (∀ v, (x, v) ∉ binds) → bindL kindOf binds m x = m x
  | [], _, _ => rfl
  | (n, v) :: r, m, h => by
    unfold bindL
    rw [bindL_out fun w hw => h w (List.mem_cons_of_mem _ hw)]
    split
    · have : x ≠ n := by rintro rfl; exact h v List.mem_cons_self
      simp [this]
    · rfl
theorem bindC_out {kindOf : Str → Option NameKind} {x : Str} : ∀ {binds : List (Str × Value)} {m : Str → Option Value}, (∀ v, (x, v) ∉ binds) → bindC kindOf binds m x = m x
  | [], _, _ => rfl
  | (n, v) :: r, m, h => by
    unfold bindC
    rw [bindC_out fun w hw => h w (List.mem_cons_of_mem _ hw)]
    split
    · rfl
    · have : x ≠ n := by rintro rfl; exact h v List.mem_cons_self
      simp [this]
theorem bindL_get {kindOf : Str → Option NameKind} {x : Str} {v : Value} : ∀ {P : List Str} {vs : List Value} {i : Nat} {m : Str → Option Value}, P.Nodup → P[i]? = some x → vs[i]? = some v → kindOf x = some .local →
    bindL kindOf (P.zip vs) m x = some v
  | [], _, _, _, _, h, _, _ => by simp at h
  | _ :: _, [], _, _, _, _, h, _ => by simp at h
  | p :: P, w :: vs, 0, m, nd, h1, h2, hk => by
    simp at h1 h2; subst h1; subst h2
    show bindL kindOf ((p, w) :: P.zip vs) m p = _
    unfold bindL
    rw [bindL_out fun v hv => (List.nodup_cons.mp nd).1 (List.of_mem_zip hv).1, if_pos hk]
    simp
  | p :: P, w :: vs, i + 1, m, nd, h1, h2, hk => by
    show bindL kindOf ((p, w) :: P.zip vs) m x = _
    unfold bindL
    exact bindL_get (i := i) (List.nodup_cons.mp nd).2 (by simpa using h1) (by simpa using h2) hk
theorem bindC_get {kindOf : Str → Option NameKind} {x : Str} {v : Value} : ∀ {P : List Str} {vs : List Value} {i : Nat} {m : Str → Option Value}, P.Nodup → P[i]? = some x → vs[i]? = some v → kindOf x ≠ some .local →
    bindC kindOf (P.zip vs) m x = some v
  | [], _, _, _, _, h, _, _ => by simp at h
  | _ :: _, [], _, _, _, _, h, _ => by simp at h
  | p :: P, w :: vs, 0, m, nd, h1, h2, hk => by
    simp at h1 h2; subst h1; subst h2
    show bindC kindOf ((p, w) :: P.zip vs) m p = _
    unfold bindC
    rw [bindC_out fun v hv => (List.nodup_cons.mp nd).1 (List.of_mem_zip hv).1, if_neg hk]
    simp
  | p :: P, w :: vs, i + 1, m, nd, h1, h2, hk => by
    show bindC kindOf ((p, w) :: P.zip vs) m x = _
    unfold bindC
    exact bindC_get (i := i) (List.nodup_cons.mp nd).2 (by simpa using h1) (by simpa using h2) hk
def start (N : List Str) (vs : List V) : St := vs.map some ++ List.replicate (N.length - vs.length) none
def cxOf (CX : CXT) (P : Program) (w : World) (K : PySem.W.Frag) (mg : Str → Option Value) (base : Heap) (N : List Str) (qual : Str) (scope : Scope) (f : Addr) (cd : Value) (A : Around) (outer : List Env) (s : Shared) (H : Hp) (E : XK) : Cx where
  prog := P
  w := w
  K := K
  mg := mg
  base := base
  A := A.deeper (envOfC qual scope s.heap.objs.size f cd)
  N := N
  s_0 := s
  H_0 := H
  env := envOfC qual scope s.heap.objs.size f cd
  outer := outer
  stack := envOfC qual scope s.heap.objs.size f cd :: outer
  ex := []
  calm := true
  fn := fun _ => true
  pn := []
  xe := fun e s' => wpAny (model P w) (A.deeper (envOfC qual scope s.heap.objs.size f cd)) (leaving (envOfC qual scope s.heap.objs.size f cd) e) (fun _ s'' => CX outer H s E e s'') (fun e' s'' => CX outer H s E e' s'') s'
theorem cell_has {sc : Scope} {n : Nat} {x : Str} (h : sc.names.lookup x = some .cell) : ∃ c, (cellsFrom n sc.names []).lookup x = some c := by
  have q := PySem.W.cellsFrom_some sc.names n [] (.inl h)
  exact Option.isSome_iff_exists.mp q
theorem inv_start {CX : CXT} {P : Program} {w : World} {K : PySem.W.Frag} {mg : Str → Option Value} {base : Heap} {N ps : List Str} {qual : Str} {scope : Scope} {f : Addr} {cd : Value} {A : Around} {outer : List Env} {s s1 : Shared} {H : Hp} {E : XK} {us : List Value} {vs : List V}
    (S : FnScope N ps scope) (hd : A.handled = none) (e0 : Env0 P w K mg base A outer s H) (hl : vs.length = ps.length) (r : Vals vs us)
    (x : InCallC s s.heap.objs.size (bindL (envOfC qual scope s.heap.objs.size f cd).kindOf (ps.zip us) fun _ => none) (cellsFrom (s.heap.objs.size + 1) scope.names []) (bindC (envOfC qual scope s.heap.objs.size f cd).kindOf (ps.zip us) fun _ => none) s1) :
    Inv (cxOf CX P w K mg base N qual scope f cd A outer s H E) [] (start N vs) H s1 := by
  have hpl : ps.length ≤ N.length := by have := congrArg List.length S.pre; rw [List.length_take] at this; omega
  obtain ⟨h1, tk, rfl, hk⟩ := x.done
  have noA : ∀ b : Addr, b ∉ (cxOf CX P w K mg base N qual scope f cd A outer s H E).ex := fun b z => absurd (show b ∈ ([] : List Addr) from z) (by simp)
  refine ⟨⟨e0.mod, S.kind, rfl, rfl, Nat.le_refl _, fun y z c h1 h2 => ?_, fun y hy => ?_, fun y c _ h => ?_, fun _ => hd, Around.frames_deeper e0.frames, .inr ⟨rfl, rfl⟩, fun b z => absurd z (noA b), e0.bs, e0.bsz, fun b _ _ => noA b, fun b z => absurd z (noA b), e0.funs, e0.frf⟩,
    rfl, e0.bare, Un.kept hk, ⟨_, x.toInCall.ns, fun i y v h1 h2 h3 => ?_⟩, fun y c h => ⟨_, x.cell y c h⟩, e0.hok.fresh (Nat.le_refl _), fun y c h => ?_, fun p hp => absurd (show p ∈ ([] : List (Addr × Obj)) from hp) (by simp), e0.hok.kept hk, ?_⟩
  · exact name_of_addr x.apart (PySem.mem_of_lookup h1) (PySem.mem_of_lookup h2)
  · have hy : scope.names.lookup y = some .cell ∨ scope.names.lookup y = some .free := hy
    rcases hy with hy | hy
    · exact cell_has hy
    · exact absurd rfl (S.nofree _ (PySem.mem_of_lookup hy))
  · exact Nat.le_of_lt (x.above y c (PySem.mem_of_lookup h))
  · have hi : i < vs.length := by
      unfold start at h2
      by_cases hi : i < vs.length
      · exact hi
      · rw [List.getElem?_append_right (by simpa using hi)] at h2
        rw [List.getElem?_replicate] at h2
        split at h2 <;> cases h2
    have ha : vs[i]? = some v := by
      unfold start at h2
      rw [List.getElem?_append_left (by simpa using hi), List.getElem?_map] at h2
      cases e : vs[i]? with
      | none => rw [e] at h2; cases h2
      | some a => rw [e] at h2; cases h2; rfl
    obtain ⟨u, hu, rv⟩ := r.get ha
    have hp : ps[i]? = some y := by
      rw [← S.pre, List.getElem?_take_of_lt (by omega)]; exact h1
    have ndP : ps.Nodup := by rw [← S.pre]; exact S.nd.sublist (List.take_sublist _ _)
    refine ⟨u, rv, ?_⟩
    rcases S.par y (List.mem_of_getElem? hp) with k | k
    · exact .inl ⟨k, bindL_get ndP hp hu k⟩
    · obtain ⟨c, e⟩ := cell_has (n := s.heap.objs.size + 1) k
      refine .inr ⟨.inl k, c, e, ?_⟩
      have q := x.cell y c e
      rw [bindC_get ndP hp hu (by show scope.names.lookup y ≠ _; rw [k]; decide)] at q
      exact q
  · exact e0.hok.fresh (Nat.le_of_lt (x.above y c (PySem.mem_of_lookup h)))
  · unfold start
    show _ = N.length
    rw [List.length_append, List.length_map, List.length_replicate]
    omega
theorem fn_of {CX : CXT} {P : Program} {w : World} {K : PySem.W.Frag} {mg : Str → Option Value} {base : Heap} {k : Nat} {f : Addr} {name qual : Str} {params : Arguments} {body : List Stmt} {scope : Scope} {dV kV doc pm cdv ct oc : Value} {an od : Option Addr}
    {osl : Array (Option Value)} {N ps : List Str} {sp : Sp} (lk : K.lookup f = some ⟨oc, od, .func (PySem.W.fnOf name qual params body scope dV kV doc pm an cdv ct), osl⟩) (hcd : PySem.W.codeIn K cdv qual = true) (S : FnScope N ps scope)
    (len : ∀ vs H Q E, sp vs H Q E → vs.length = ps.length)
    (hbody : ∀ (A : Around) (outer : List Env) (s : Shared) (H : Hp) (vs : List V) (Q : VK) (E : XK), Room k (A.deeper (envOfC qual scope s.heap.objs.size f cdv)) → sp vs H Q E →
      ∃ t, PSs (cxOf CX P w K mg base N qual scope f cdv A outer s H E) body t ∧ t { nx := fun _ H' => Q .non H', rt := Q } (start N vs) H) :
    FnOk P w K mg base CX (k + 1) f (PySem.W.fnOf name qual params body scope dV kV doc pm an cdv ct) ps sp := by
  refine ⟨len, fun A outer s H args us vs Q E hr e0 hb r hsp => ?_⟩
  have hl := len _ _ _ _ hsp
  have KX : K.In s.heap := e0.mod.kin.keeps fun b o e => (e0.bs b o e).1
  have lim : s.heap.NoLimit := e0.mod.nolimit.keeps fun b o e => (e0.bs b o e).1
  have hkind : ∀ y ∈ ps.zip us, scope.names.lookup y.1 = some .local ∨ (scope.names.lookup y.1 = some .cell ∧ ((cellsFrom (s.heap.objs.size + 1) scope.names []).lookup y.1).isSome = true) := fun ⟨n, v⟩ hy => by
    rcases S.par n (List.of_mem_zip hy).1 with q | q
    · exact .inl q
    · exact .inr ⟨q, PySem.W.cellsFrom_some _ _ _ (.inl q)⟩
  refine codeAny_call_function hr.depth (KX _ _ lk) rfl S.co S.gen rfl (PySem.W.codeRec_of KX hcd) (hb _ _ _ _ ?_)
  refine wpAny_newFunctionEnv_cells S.kind hkind fun env he s1 x => ?_
  subst he
  refine ⟨lim.keeps x.toInCall.keep, codeAny_func ?_⟩
  obtain ⟨t, ht, hq⟩ := hbody A outer s H vs Q E (hr.deeper _) hsp
  have I : Inv (cxOf CX P w K mg base N qual scope f cdv A outer s H E) [] (start N vs) H s1 := inv_start S hr.hd e0 hl r x
  refine wpAny_mono (ht [] s1 (start N vs) H _ I hq) (fun fl s' hs => ?_) fun e s' hs => hs
  have fin : ∀ {σ' : St} {H' : Hp} {v : V} {u : Value}, Inv (cxOf CX P w K mg base N qual scope f cdv A outer s H E) [] σ' H' s' → RelV v u → Q v H' → CE outer P w H s Q u s' :=
    fun {σ' H' v u} J rv q => ⟨v, H', J.os, J.bare, J.base, J.hok, rv, q⟩
  cases fl with
  | ret u =>
    obtain ⟨v, σ', H', J, rv, q⟩ := hs
    exact fin J rv q
  | next =>
    obtain ⟨σ', H', J, q⟩ := hs
    exact fin (v := V.non) (u := Value.none) J rfl q
  | brk =>
    obtain ⟨_, _, _, q⟩ := hs
    exact False.elim q
  | cont =>
    obtain ⟨_, _, _, q⟩ := hs
    exact False.elim q
end L2
namespace L2
open PySem PySem.Spec PyProof.Rows
section
variable {X : Cx} {x : Str} {p pos : Pos} {e : Expr} {es : List Expr} {t : TA} {id T : String} {r : List V → Hp → VK → Prop}
def tCB (r : List V → Hp → VK → Prop) (t : TA) : TE := fun σ H Q => t σ H fun vs H1 => r vs H1 Q
theorem pe_callB (hc : CallR X (.builtin id) r) (hg : Gl X x) (hm : X.mg x = none) (hv : bootBuiltins x = some (.builtin id)) (ha : PA X (e :: es) t) (hn : x ≠ "__name__" := by decide) (hdb : (x == ("__debug__" : Str)) = false := by decide)
    (he : starEach (e :: es) X.env = (false, eval e X.env) :: starEach es X.env := by rfl) (hpl : (backTo pos (starEach es X.env)).any (·.1) = false := by rfl) : PE X (.Call (.Name x p) (e :: es) [] pos) (tCB r t) := by
  intro pins s σ H Q I h
  refine wpAny_Call_Name_kw (ld_blt I hg hm hv ?_ hn hdb)
  exact PyProof.Rows.callWith_builtin1 (thn (ha pos pins s σ H _ I h) fun us s1 ⟨vs, H1, I1, r1, q1⟩ => hc pins s1 σ H1 vs us Q I1 r1 q1) he hpl
theorem pe_callTy (hc : CallR X (.type T) r) (hg : Gl X x) (hm : X.mg x = none) (hv : bootBuiltins x = some (.type T)) (ha : PA X (e :: es) t) (hn : x ≠ "__name__" := by decide) (hdb : (x == ("__debug__" : Str)) = false := by decide)
    (he : starEach (e :: es) X.env = (false, eval e X.env) :: starEach es X.env := by rfl) (hpl : (backTo pos (starEach es X.env)).any (·.1) = false := by rfl) : PE X (.Call (.Name x p) (e :: es) [] pos) (tCB r t) := by
  intro pins s σ H Q I h
  refine wpAny_Call_Name_kw (ld_blt I hg hm hv ?_ hn hdb)
  exact PyProof.Rows.callWith_type1 (thn (ha pos pins s σ H _ I h) fun us s1 ⟨vs, H1, I1, r1, q1⟩ => hc pins s1 σ H1 vs us Q I1 r1 q1) he hpl
end
end L2
namespace HT
open PySem PyProof.Rows
def lexLt : List Int → List Int → Bool
  | [], [] => false
  | [], _ :: _ => true
  | _ :: _, [] => false
  | x :: xs, y :: ys => if x = y then lexLt xs ys else decide (x < y)
theorem lexLt_cons (x y : Int) (xs ys : List Int) : lexLt (x :: xs) (y :: ys) = if x = y then lexLt xs ys else decide (x < y) := rfl
theorem lexLt_nil_nil : lexLt [] [] = false := rfl
theorem lexLt_nil_cons (y : Int) (ys : List Int) : lexLt [] (y :: ys) = true := rfl
theorem lexLt_cons_nil (x : Int) (xs : List Int) : lexLt (x :: xs) [] = false := rfl
theorem eqAt_int (A : Around) (s : Shared) (a : Int) (t : Tok) (c : Int) (u : Tok) : ∃ e, SeqAt.EqAt A s (.int a t) (.int c u) e ∧ (e = true ↔ a = c) :=
  ⟨(a == c), SeqAt.EqAt.int_int a t c u, by simp⟩
theorem rcLt_int (A : Around) (s : Shared) (a : Int) (t : Tok) (c : Int) (u : Tok) (prog : Program) (w : World) (E : Value → Shared → Prop) (Q : Value → Shared → Prop) (h : Q (.bool (decide (a < c))) s) :
    wpAny (model prog w) A (richCompare .Lt (.int a t) (.int c u)) Q E s :=
  (PyProof.Rows.lt_int h : wpAny (model prog w) A (compareOp .Lt (.int a t) (.int c u)) Q E s)
section
open PySem.SeqAt
open PySem.AutoSeq1 (wpAny_loadPart')
open PySem.MeetsSeq PySem.MeetsSeq2 PySem.MeetsSeq3
theorem tuple_lt_ints (l b : Addr) (items items2 : Array Value) (n n2 : Nat) (dd dd2 : Option Addr) (sl sl2 : Array (Option Value)) (ns ms : List Int) (hi : IntsAre items.toList ns) (hj : IntsAre items2.toList ms) :
    Meets (Builtin.«tuple.__lt__» ⟨[.ref l, .ref b], []⟩)
      (fun _ R s => s.heap.get? l = some { cls := .type "tuple", dict := dd, data := .seq items n, slots := sl } ∧ s.heap.get? b = some { cls := .type "tuple", dict := dd2, data := .seq items2 n2, slots := sl2 } ∧
        R (.ok (.ret (.bool (lexLt ns ms)))) s) :=
  .of_wp fun prog w A R s h => by
    obtain ⟨hp, g, d, tk, os⟩ := s; obtain ⟨hl, hb, h⟩ := h
    have f2 := AutoSeq1.sub_tuple_tuple
    have z1 : items.size = ns.length := by rw [← hi.length]; simp
    have z2 : items2.size = ms.length := by rw [← hj.length]; simp
    wp_walk using wpAny_loadPart' hl, wpAny_loadPart' hb, wpAny_forIn_list _ (fun rest b s' => b.1 = none ∧ s' = ⟨hp, g, d, tk, os⟩ ∧ ∃ (vs ws : List Value) (ns' ms' : List Int), rest = vs.zip ws ∧
      IntsAre vs ns' ∧ IntsAre ws ms' ∧ ns'.length + items2.size = ms'.length + items.size ∧ R (.ok (.ret (.bool (lexLt ns' ms')))) ⟨hp, g, d, tk, os⟩) _
    case turn =>
      rintro ⟨y, x⟩ rest b s' ⟨hb', rfl, vs, ws, ns', ms', hz, hvi, hwi, hlen, hR⟩
      cases hvi with
      | nil => rw [List.zip_nil_left] at hz; cases hz
      | cons a t hvi' =>
        cases hwi with
        | nil => rw [List.zip_nil_right] at hz; cases hz
        | cons c u hwi' =>
          rw [List.zip_cons_cons] at hz
          injection hz with hyx hrest
          injection hyx with hy hx
          subst hy hx
          rw [lexLt_cons] at hR
          simp only [List.length_cons] at hlen
          obtain ⟨e, he, hiff⟩ := eqAt_int A.in1 ⟨hp, g, d, tk, os⟩ a t c u
          refine wpAny_bind (he prog w _ _ ?_)
          cases e with
          | true =>
            rw [if_pos (hiff.mp rfl)] at hR
            wp_walk
            exact ⟨rfl, rfl, _, _, _, _, hrest, hvi', hwi', by omega, hR⟩
          | false =>
            rw [if_neg (fun q => absurd (hiff.mpr q) Bool.false_ne_true)] at hR
            have hri := rcLt_int A.in1 ⟨hp, g, d, tk, os⟩ a t c u prog w
            wp_walk using hri
            exact ⟨_, rfl, by simpa using hR⟩
    case fin =>
      rintro ⟨b1, b2⟩ s' ⟨hb', rfl, vs, ws, ns', ms', hz, hvi, hwi, hlen, hR⟩
      simp only at hb'
      subst hb'
      have hv : lexLt ns' ms' = decide (items.size < items2.size) := by
        cases hvi with
        | nil =>
          cases hwi with
          | nil =>
            simp only [List.length_nil] at hlen
            rw [lexLt_nil_nil]
            exact (decide_eq_false (by omega)).symm
          | cons c u hw =>
            simp only [List.length_nil, List.length_cons] at hlen
            rw [lexLt_nil_cons]
            exact (decide_eq_true (by omega)).symm
        | cons a t hv =>
          cases hwi with
          | nil =>
            simp only [List.length_nil, List.length_cons] at hlen
            rw [lexLt_cons_nil]
            exact (decide_eq_false (by omega)).symm
          | cons c u hw =>
            rw [List.zip_cons_cons] at hz
            cases hz
      rw [hv] at hR
      wp_walk
      exact ⟨_, rfl, by simpa [Builtin.Tuple.tupleCompareSizes] using hR⟩
    case h =>
      exact ⟨rfl, rfl, items.toList, items2.toList, ns, ms, rfl, hi, hj, by omega, h⟩
end
section
variable {prog : Program} {w : World} {A : Around} {E : Value → Shared → Prop} {s : Shared}
theorem lt_tupInts {l b : Addr} {items items2 : Array Value} {ns ms : List Int} {Q : Value → Shared → Prop} (hl : IsTup s.heap l items) (hb : IsTup s.heap b items2) (hi : IntsAre items.toList ns) (hj : IntsAre items2.toList ms)
    (hu : A.units < cLine) (h : Q (.bool (lexLt ns ms)) s) : wpAny (model prog w) A (compareOp .Lt (.ref l) (.ref b)) Q E s := by
  obtain ⟨⟨cls, dd, data, sl⟩, ho, hc, n, hd⟩ := id hl
  obtain ⟨⟨cls2, dd2, data2, sl2⟩, ho2, hc2, n2, hd2⟩ := id hb
  simp only at hc hd hc2 hd2
  subst hc hd hc2 hd2
  exact richCompare_meets_room (op := .Lt) ⟨_, ho, rfl⟩ ⟨_, ho2, rfl⟩ PySem.F.slot_tuple_lt PySem.F.entry_tuple_lt (PySem.F.args_tuple_lt_2 _ _) (tuple_lt_ints l b items items2 n n2 dd dd2 sl sl2 ns ms hi hj)
    ⟨ho, ho2, show Value.bool (lexLt ns ms) ≠ Value.notImplemented ∧ Q (.bool (lexLt ns ms)) s from ⟨(fun x => nomatch x), h⟩⟩ hu
def sIx (n d : Nat) : Option Int → Nat
  | none => d
  | some v => if v < 0 then (v + (n : Int)).toNat else min v.toNat n
theorem sIx_none (n d : Nat) : sIx n d none = d := rfl
theorem sIx_nat (n d k : Nat) : sIx n d (some (k : Int)) = min k n := by
  show (if (k : Int) < 0 then ((k : Int) + (n : Int)).toNat else min (k : Int).toNat n) = min k n
  rw [if_neg (by omega), Int.toNat_natCast]
end
end HT
namespace L2
open PySem PySem.Spec PyProof.Rows
abbrev TO := St → Hp → (Option Int → Hp → Prop) → Prop
def PO (X : Cx) (e : Option Expr) (t : TO) : Prop :=
  ∀ (pins : List (Addr × Obj)) (s : Shared) (σ : St) (H : Hp) (Q : Option Int → Hp → Prop), Inv X pins σ H s → t σ H Q →
    wpAny (model X.prog X.w) X.A (evalPart e X.env) (fun u s' => ∃ o H', Inv X pins σ H' s' ∧ IsPart u o ∧ Q o H') X.xe s
def tNoPart : TO := fun _ H Q => Q none H
def tPart (t : TE) : TO := fun σ H Q => t σ H fun x H1 => ∃ i, x = .int i ∧ Q (some i) H1
theorem intsAre_of {ns : List Int} : ∀ {us : List Value}, Vals (ns.map V.int) us → IntsAre us ns := by
  induction ns with
  | nil => intro us r; rw [List.map_nil] at r; cases r; exact .nil
  | cons n ns ih =>
    intro us r
    rw [List.map_cons] at r
    cases r with
    | cons r1 r2 =>
      obtain ⟨t, e⟩ := r1
      subst e
      exact .cons n t (ih r2)
section
variable {X : Cx} {e : Expr} {te : TE} {lo hi : Option Expr} {tl th : TO} {pos p2 : Pos}
theorem po_none : PO X none tNoPart := by
  intro pins s σ H Q I h
  rw [evalPart_none]
  exact wpAny_pure ⟨none, H, I, .none, h⟩
theorem po_some (h : PE X e te) : PO X (some e) (tPart te) := by
  intro pins s σ H Q I hw
  rw [evalPart_some]
  refine thn (h pins s σ H _ I hw) fun u s1 ⟨x, H1, I1, r1, q1⟩ => ?_
  obtain ⟨i, rfl, q⟩ := q1
  obtain ⟨t, rfl⟩ := r1
  exact ⟨some i, H1, I1, .int i t, q⟩
def SlR (X : Cx) (r : V → Option Int → Option Int → Hp → VK → Prop) : Prop :=
  ∀ (pins : List (Addr × Obj)) (s : Shared) (σ : St) (H : Hp) (x : V) (v vl vu : Value) (lo hi : Option Int) (sl : Addr) (Q : VK), Inv X pins σ H s → RelV x v → s.heap.IsSliceOf sl vl vu .none → IsPart vl lo → IsPart vu hi → r x lo hi H Q →
    ∃ T id, typeLookup (.type T) "__getitem__" = pure (some (.builtin id)) ∧ s.TypeIs v T ∧ wpAny (model X.prog X.w) X.A (getItem v (.ref sl)) (EP X pins σ Q) X.xe s
def tSl (r : V → Option Int → Option Int → Hp → VK → Prop) (te : TE) (tl th : TO) : TE := fun σ H Q => te σ H fun x H1 => tl σ H1 fun l H2 => th σ H2 fun u H3 => r x l u H3 Q
theorem pe_slice {r : V → Option Int → Option Int → Hp → VK → Prop} (hr : SlR X r) (he : PE X e te) (hl : PO X lo tl) (hu : PO X hi th) : PE X (.Subscript e (.Slice lo hi none p2) pos) (tSl r te tl th) := by
  intro pins s σ H Q I h
  refine Subscript_ (thn (he pins s σ H _ I h) fun v s1 ⟨x, H1, I1, r1, q1⟩ => ?_)
  refine wpAny_Slice (thn (hl pins s1 σ H1 _ I1 q1) fun vl s2 ⟨l, H2, I2, pl, q2⟩ => thn (hu pins s2 σ H2 _ I2 q2) fun vu s3 ⟨u, H3, I3, pu, q3⟩ => ?_)
  rw [evalPart_none]
  refine wpAny_pure ?_
  have I4 : Inv X pins σ H3 { s3 with heap := s3.heap.push { cls := .type "slice", data := .fields #[vl, vu, .none] } } := I3.kept (t' := s3.toks) fun b ob q => Heap.get?_push_of_some _ q
  obtain ⟨T, id, hT, ht, hg⟩ := hr pins { s3 with heap := s3.heap.push { cls := .type "slice", data := .fields #[vl, vu, .none] } } σ H3 x v vl vu l u s3.heap.objs.size Q I4 r1 (Heap.IsSliceOf.new ..) pl pu q3
  show wpAny (model X.prog X.w) X.A (subscriptTail e (.Slice lo hi none p2) v (.ref s3.heap.objs.size)) (EP X pins σ Q) X.xe { s3 with heap := s3.heap.push { cls := .type "slice", data := .fields #[vl, vu, .none] } }
  exact tail_any (ops := [.ref s3.heap.objs.size, v]) ht hT hg (by with_unfolding_all rfl)
def cutV (xs : List V) (lo hi : Option Int) : List V := (xs.drop (HT.sIx xs.length 0 lo)).take (HT.sIx xs.length xs.length hi - HT.sIx xs.length 0 lo)
theorem cutV_length (xs : List V) (lo hi : Option Int) : (cutV xs lo hi).length ≤ xs.length := by
  unfold cutV
  rw [List.length_take, List.length_drop]
  omega
end
end L2
namespace L2
open PySem PySem.Spec PyProof.Rows
def ixN (n : Nat) (i : Int) : Option Nat := if 0 ≤ i then (if i < n then some i.toNat else none) else if -(n : Int) ≤ i then some (i + n).toNat else none
def atI {α : Type} (xs : List α) (i : Int) : Option α := (ixN xs.length i).bind fun j => xs[j]?
theorem ixN_seq {n : Nat} {i : Int} {j : Nat} (h : ixN n i = some j) : seqIndex? i n = some j ∧ j < n ∧ -(n : Int) ≤ i ∧ i < n := by
  unfold ixN at h
  by_cases h0 : 0 ≤ i
  · rw [if_pos h0] at h
    by_cases h1 : i < n
    · rw [if_pos h1] at h
      have e : i.toNat = j := Option.some.inj h
      exact ⟨by rw [seqIndex_of h0 h1, e], by omega, by omega, h1⟩
    · rw [if_neg h1] at h; cases h
  · rw [if_neg h0] at h
    by_cases h1 : -(n : Int) ≤ i
    · rw [if_pos h1] at h
      have e : (i + n).toNat = j := Option.some.inj h
      exact ⟨by rw [seqIndex_neg (by omega) h1, e], by omega, h1, by omega⟩
    · rw [if_neg h1] at h; cases h
theorem atI_get {α : Type} {xs : List α} {i : Int} {v : α} (h : atI xs i = some v) : ∃ j, seqIndex? i xs.length = some j ∧ xs[j]? = some v ∧ j < xs.length ∧ -(xs.length : Int) ≤ i ∧ i < xs.length := by
  unfold atI at h
  cases e : ixN xs.length i with
  | none => rw [e] at h; cases h
  | some j =>
    rw [e] at h
    obtain ⟨h1, h2, h3, h4⟩ := ixN_seq e
    exact ⟨j, h1, h, h2, h3, h4⟩
theorem atI_nat {α : Type} {xs : List α} {j : Nat} {v : α} (h : xs[j]? = some v) : atI xs (j : Int) = some v := by
  have hj : j < xs.length := (List.getElem?_eq_some_iff.mp h).1
  have e : ixN xs.length (j : Int) = some j := by
    unfold ixN
    rw [if_pos (by omega), if_pos (by omega)]; simp
  unfold atI; rw [e]; exact h
def PlainIx (b : Expr) : Prop := ∀ o i, subscripted b false o i = operate [o, i] (getItem o i)
def IxR (X : Cx) (r : R2) : Prop :=
  ∀ (value slice : Expr) (pins : List (Addr × Obj)) (s : Shared) (σ : St) (H : Hp) (x y : V) (v u : Value) (Q : VK), Inv X pins σ H s → RelV x v → RelV y u → r x y H Q →
    subscripted slice false v u = operate [v, u] (getItem v u) → wpAny (model X.prog X.w) X.A (subscriptTail value slice v u) (EP X pins σ Q) X.xe s
def MtR (X : Cx) (id : String) (r : V → List V → Hp → VK → Prop) : Prop :=
  ∀ (pins : List (Addr × Obj)) (s : Shared) (σ : St) (H : Hp) (x : V) (xs : List V) (v : Value) (us : List Value) (Q : VK), Inv X pins σ H s → RelV x v → Vals xs us → r x xs H Q →
    wpAny (model X.prog X.w) X.A (call (.builtin id) (v :: us)) (EP X pins σ Q) X.xe s
section
variable {X : Cx} {a b : Expr} {ta tb : TE} {pos : Pos}
theorem pe_ix {r : R2} (hr : IxR X r) (ha : PE X a ta) (hb : PE X b tb) (hs : PlainIx b) : PE X (.Subscript a b pos) (tOp r ta tb) := by
  intro pins s σ H Q I h
  exact Subscript_ (binT ha hb I h fun v u s2 x y H2 I2 rx ry q => hr a b pins s2 σ H2 x y v u Q I2 rx ry q (hs _ _))
def rIxL (K : PySem.W.Frag) : R2 := fun x y H Q => ∃ p xs i v, x = .ref p ∧ y = .int i ∧ SqL K H p xs ∧ atI xs i = some v ∧ Q v H
def rIxT (K : PySem.W.Frag) : R2 := fun x y H Q => ∃ p xs i v, x = .ref p ∧ y = .int i ∧ SqT K H p xs ∧ atI xs i = some v ∧ Q v H
theorem ix_list : IxR X (rIxL X.K) := by
  intro value slice pins s σ H x y v u Q I rx ry h hs
  obtain ⟨p, xs, i, z, rfl, rfl, hq, he, q⟩ := h
  cases rx
  obtain ⟨t, rfl⟩ := ry
  obtain ⟨its, r, pl, hz⟩ := I.list hq
  obtain ⟨j, h1, h2, h3, h4, h5⟩ := atI_get he
  obtain ⟨w, ew, rw'⟩ := r.get h2
  have hl := r.length
  have hn := line63
  have fin : EP X pins σ Q w s := ⟨z, H, I, rw', q⟩
  by_cases h0 : 0 ≤ i
  · have hj : i.toNat = j := by
      rw [seqIndex_of h0 h5] at h1
      exact Option.some.inj h1
    exact item_listR pl.isList h0 (by omega) (by rw [hj]; simpa using ew) fin hs
  · have hj : (i + (its.toArray.size : Int)).toNat = j := by
      rw [seqIndex_neg (by omega) h4] at h1
      rw [List.size_toArray, ← hl]
      exact Option.some.inj h1
    exact subscriptTail_builtinR (x := w) pl.isList.typeIs slot_list_getitem.lookup
      (wpAny_getItem_list_neg (Q := fun r s' => r = w ∧ EP X pins σ Q r s') pl.isList (by omega) (by rw [List.size_toArray] <;> omega) (by omega) (by rw [hj]; simpa using ew) ⟨rfl, fin⟩) hs
theorem ix_tup : IxR X (rIxT X.K) := by
  intro value slice pins s σ H x y v u Q I rx ry h hs
  obtain ⟨p, xs, i, z, rfl, rfl, hq, he, q⟩ := h
  cases rx
  obtain ⟨t, rfl⟩ := ry
  obtain ⟨its, r, pl, hz⟩ := I.tuple hq
  obtain ⟨j, h1, h2, h3, h4, h5⟩ := atI_get he
  obtain ⟨w, ew, rw'⟩ := r.get h2
  have hl := r.length
  have hn := line63
  have fin : EP X pins σ Q w s := ⟨z, H, I, rw', q⟩
  exact subscriptTail_builtinR (x := w) pl.typeIs slot_tuple_getitem.lookup
    (getItem_tuple (j := j) (Q := fun r s' => r = w ∧ EP X pins σ Q r s') pl (by omega) (by omega) (by rw [List.size_toArray, ← hl]; exact h1) (by simpa using ew) ⟨rfl, fin⟩) hs
theorem mapSeq_set (its : List Value) (n j : Nat) (u : Value) : Obj.mapSeq (·.setIfInBounds j u) { cls := .type "list", data := .seq its.toArray n } = { cls := .type "list", data := .seq (its.set j u).toArray n } := by
  simp [Obj.mapSeq]
theorem Inv.lst {pins : List (Addr × Obj)} {σ : St} {H : Hp} {s : Shared} {p : Addr} {xs : List V} (I : Inv X pins σ H s) (h : H p = some (.lst xs)) :
    ∃ (its : List Value) (n : Nat), Vals xs its ∧ s.heap.get? p = some { cls := .type "list", data := .seq its.toArray n } ∧ xs.length ≤ sizeLine := by
  obtain ⟨z, its, n, r, e⟩ := I.hok p _ h
  exact ⟨its, n, r, e, z⟩
theorem Inv.lstUpd {pins : List (Addr × Obj)} {σ : St} {H : Hp} {s : Shared} {p : Addr} {xs ys : List V} {its its' : List Value} {n n' : Nat} {f : Obj → Obj} (I : Inv X pins σ H s) (h : H p = some (.lst xs))
    (ho : s.heap.get? p = some { cls := .type "list", data := .seq its.toArray n }) (hf : f { cls := .type "list", data := .seq its.toArray n } = { cls := .type "list", data := .seq its'.toArray n' }) (r : Vals ys its') (hz : ys.length ≤ sizeLine) (t : Nat) :
    Inv X pins σ (upd H p (.lst ys)) { s with heap := s.heap.update p f, toks := t } := by
  have e : (s.heap.update p f).get? p = some { cls := .type "list", data := .seq its'.toArray n' } := by
    rw [Heap.get?_update_self f ho (by rw [hf] <;> rfl), hf]
  refine I.write (x := p) (e := p) (by rw [h]; trivial) (.inl rfl) (fun b u hb q => (Heap.get?_update_other _ _ (Ne.symm hb)).trans q) ⟨_, e⟩ ?_
  exact ⟨hz, its', n', r, e⟩
def rSetL : V → V → V → Hp → (Hp → Prop) → Prop := fun o i v H Q => ∃ p xs k j, o = .ref p ∧ i = .int k ∧ H p = some (.lst xs) ∧ ixN xs.length k = some j ∧ Q (upd H p (.lst (xs.set j v)))
theorem set_list : PSet X rSetL := by
  intro pins s σ H o i v ov iv u Q I ro ri rv h
  obtain ⟨p, xs, k, j, rfl, rfl, hp, hj, q⟩ := h
  cases ro
  obtain ⟨t, rfl⟩ := ri
  obtain ⟨its, n, r, ho, hz⟩ := I.lst hp
  obtain ⟨h1, h2, h3, h4⟩ := ixN_seq hj
  have hl := r.length
  have hn := line63
  have I' : Inv X pins σ (upd H p (.lst (xs.set j v))) { s with heap := s.heap.update p (Obj.mapSeq (·.setIfInBounds j u)) } :=
    I.lstUpd hp ho (mapSeq_set its n j u) (r.set rv j) (by rw [List.length_set]; exact hz) s.toks
  by_cases h0 : 0 ≤ k
  · have hk : k.toNat = j := by
      rw [seqIndex_of h0 h4] at h1
      exact Option.some.inj h1
    exact PySem.W.ki_setAt ho h0 (by omega) (by rw [List.size_toArray, ← hl]; exact h4) (by rw [hk]; exact ⟨_, I', q⟩)
  · have hk : (k + (its.toArray.size : Int)).toNat = j := by
      rw [seqIndex_neg (by omega) h3] at h1
      rw [List.size_toArray, ← hl]
      exact Option.some.inj h1
    exact PySem.W.ki_setBack ho (by omega) (by rw [List.size_toArray, ← hl]; exact h3) (by omega) (by rw [hk]; exact ⟨_, I', q⟩)
theorem slice_bounds (lo hi : Option Int) (n : Nat) : (sliceBounds lo hi none n).1 = ((HT.sIx n 0 lo : Nat) : Int) ∧ (sliceBounds lo hi none n).2.1 = ((HT.sIx n n hi : Nat) : Int) ∧ (sliceBounds lo hi none n).2.2 = 1 := by
  refine ⟨?_, ?_, rfl⟩
  · cases lo with
    | none => simp [sliceBounds, HT.sIx]
    | some i =>
      simp only [sliceBounds, HT.sIx, Option.getD_none, show (1 : Int) > 0 by decide, if_true]
      by_cases h : i < 0
      · simp only [h, if_true] <;> omega
      · simp only [h, if_false] <;> omega
  · cases hi with
    | none => simp [sliceBounds, HT.sIx]
    | some i =>
      simp only [sliceBounds, HT.sIx, Option.getD_none, show (1 : Int) > 0 by decide, if_true]
      by_cases h : i < 0
      · simp only [h, if_true] <;> omega
      · simp only [h, if_false] <;> omega
theorem slicePick_cut (its : List Value) (lo hi : Option Int) : slicePick its.toArray lo hi none = ((its.drop (HT.sIx its.length 0 lo)).take (HT.sIx its.length its.length hi - HT.sIx its.length 0 lo)).toArray := by
  obtain ⟨h1, h2, h3⟩ := slice_bounds lo hi its.toArray.size
  unfold slicePick
  rw [h1, h2, h3]
  simp only [sliceRange_one, pick_run, List.size_toArray] <;> rfl
def rSlL (K : PySem.W.Frag) : V → Option Int → Option Int → Hp → VK → Prop := fun x lo hi H Q => ∃ a xs, x = .ref a ∧ SqL K H a xs ∧ ∀ p, H p = none → Q (.ref p) (upd H p (.lst (cutV xs lo hi)))
theorem sl_list : SlR X (rSlL X.K) := by
  intro pins s σ H x v vl vu lo hi sl Q I rx hs pl pu h
  obtain ⟨a, xs, rfl, hx, q⟩ := h
  cases rx
  obtain ⟨its, r, ht, hz⟩ := I.list hx
  have hlen := r.length
  refine ⟨"list", _, slot_list_getitem.lookup, ht.isList.typeIs, ?_⟩
  refine wpAny_getItem_list_slice ht.isList hs pl pu .none (by simp) ?_ (by rw [List.size_toArray] <;> omega)
  rw [slicePick_cut, ← hlen]
  refine ⟨.ref s.heap.objs.size, _, I.laid (t' := s.toks) (o := .lst (cutV xs lo hi)) (fun b ob q => Heap.get?_push_of_some _ q) (Nat.le_refl _) ?_, rfl, q _ (I.hok.fresh (Nat.le_refl _))⟩
  exact ⟨Nat.le_trans (cutV_length xs lo hi) hz, _, 0, (r.drop (HT.sIx xs.length 0 lo)).take (HT.sIx xs.length xs.length hi - HT.sIx xs.length 0 lo), Heap.get?_push_size _ rfl⟩
def flatV : V → Bool
  | .non => true
  | .bl _ => true
  | .int _ => true
  | .str _ => true
  | _ => false
def eqV : V → V → Bool
  | .non, .non => true
  | .bl a, .bl b => a == b
  | .bl a, .int b => (if a then 1 else 0) == b
  | .int a, .bl b => a == (if b then 1 else 0)
  | .int a, .int b => a == b
  | .str a, .str b => a == b
  | _, _ => false
theorem eqAt_V {A : Around} {s : Shared} {y x : V} {u v : Value} (ry : RelV y u) (rx : RelV x v) (fy : flatV y = true) (fx : flatV x = true) : SeqAt.EqAt A s u v (eqV y x) := by
  cases y with
  | non =>
    cases ry
    cases x with
    | non => cases rx; exact SeqAt.EqAt.same _
    | bl b => cases rx; exact SeqAt.EqAt.none_bool b
    | int b => obtain ⟨t, rfl⟩ := rx; exact SeqAt.EqAt.none_int b t
    | str b => obtain ⟨t, rfl⟩ := rx; exact SeqAt.EqAt.none_str b t
    | _ => exact absurd (show false = true from fx) Bool.false_ne_true
  | bl a =>
    cases ry
    cases x with
    | non => cases rx; exact SeqAt.EqAt.bool_none a
    | bl b => cases rx; exact SeqAt.EqAt.bool_bool a b
    | int b => obtain ⟨t, rfl⟩ := rx; exact SeqAt.EqAt.bool_int a b t
    | str b => obtain ⟨t, rfl⟩ := rx; exact SeqAt.EqAt.bool_str a b t
    | _ => exact absurd (show false = true from fx) Bool.false_ne_true
  | int a =>
    obtain ⟨t', rfl⟩ := ry
    cases x with
    | non => cases rx; exact SeqAt.EqAt.int_none a t'
    | bl b => cases rx; exact SeqAt.EqAt.int_bool a t' b
    | int b => obtain ⟨t, rfl⟩ := rx; exact SeqAt.EqAt.int_int a t' b t
    | str b => obtain ⟨t, rfl⟩ := rx; exact SeqAt.EqAt.int_str a t' b t
    | _ => exact absurd (show false = true from fx) Bool.false_ne_true
  | str a =>
    obtain ⟨t', rfl⟩ := ry
    cases x with
    | non => cases rx; exact SeqAt.EqAt.str_none a t'
    | bl b => cases rx; exact SeqAt.EqAt.str_bool a t' b
    | int b => obtain ⟨t, rfl⟩ := rx; exact SeqAt.EqAt.str_int a t' b t
    | str b => obtain ⟨t, rfl⟩ := rx; exact SeqAt.EqAt.str_str a t' b t
    | _ => exact absurd (show false = true from fx) Bool.false_ne_true
  | _ => exact absurd (show false = true from fy) Bool.false_ne_true
def eqU (x : V) (u : Value) : Bool := match u with
  | .none => eqV .non x
  | .bool b => eqV (.bl b) x
  | .int i _ => eqV (.int i) x
  | .str z _ => eqV (.str z) x
  | _ => false
theorem eqU_of {x y : V} {u : Value} (r : RelV y u) (f : flatV y = true) : eqU x u = eqV y x := by
  cases y with
  | non => cases r; rfl
  | bl b => cases r; rfl
  | int i => obtain ⟨t, rfl⟩ := r; rfl
  | str z => obtain ⟨t, rfl⟩ := r; rfl
  | _ => exact absurd (show false = true from f) Bool.false_ne_true
theorem any_eqU {x : V} : ∀ {xs : List V} {us : List Value}, Vals xs us → xs.all flatV = true → us.any (eqU x) = xs.any fun y => eqV y x
  | _, _, .nil, _ => rfl
  | y :: xs, u :: us, .cons r t, f => by
    rw [List.all_cons, Bool.and_eq_true] at f
    rw [List.any_cons, List.any_cons, eqU_of r f.1, any_eqU t f.2]
theorem mem_eqAt {A : Around} {s : Shared} {x : V} {v : Value} (rx : RelV x v) (fx : flatV x = true) : ∀ {xs : List V} {us : List Value}, Vals xs us → xs.all flatV = true → ∀ u ∈ us, SeqAt.EqAt A s u v (eqU x u)
  | _, _, .nil, _ => fun u hu => by cases hu
  | y :: xs, u :: us, .cons r t, f => fun u' hu => by
    rw [List.all_cons, Bool.and_eq_true] at f
    rcases List.mem_cons.mp hu with rfl | hu
    · rw [eqU_of r f.1]; exact eqAt_V r rx f.1 fx
    · exact mem_eqAt rx fx t f.2 u' hu
def inV (x : V) (xs : List V) : Bool := xs.any fun y => eqV y x
def rIn (K : PySem.W.Frag) (neg : Bool) : R2 := fun x y H Q => ∃ p xs, y = .ref p ∧ (SqL K H p xs ∨ SqT K H p xs) ∧ flatV x = true ∧ xs.all flatV = true ∧ Q (.bl (if neg then !inV x xs else inV x xs)) H
theorem op_in_seq : OpR X (compareOp .In) (rIn X.K false) := by
  intro pins s σ H x y v u Q I rx ry h
  obtain ⟨p, xs, rfl, hq, fx, fs, q⟩ := h
  cases ry
  rcases hq with hq | hq
  · obtain ⟨its, r, pl, hz⟩ := I.list hq
    refine SeqAt.in_listAt (eqU x) pl.isList (fun w hw => mem_eqAt rx fx r fs w (by simpa using hw)) ⟨.bl _, H, I, rfl, ?_⟩
    rw [show its.toArray.any (eqU x) = its.any (eqU x) by simp, any_eqU r fs]
    exact q
  · obtain ⟨its, r, pl, hz⟩ := I.tuple hq
    refine SeqAt.in_tupleAt (eqU x) pl (fun w hw => mem_eqAt rx fx r fs w (by simpa using hw)) ⟨.bl _, H, I, rfl, ?_⟩
    rw [show its.toArray.any (eqU x) = its.any (eqU x) by simp, any_eqU r fs]
    exact q
theorem op_notIn_seq : OpR X (compareOp .NotIn) (rIn X.K true) := by
  intro pins s σ H x y v u Q I rx ry h
  obtain ⟨p, xs, rfl, hq, fx, fs, q⟩ := h
  cases ry
  rcases hq with hq | hq
  · obtain ⟨its, r, pl, hz⟩ := I.list hq
    refine SeqAt.notIn_listAt (eqU x) pl.isList (fun w hw => mem_eqAt rx fx r fs w (by simpa using hw)) ⟨.bl _, H, I, rfl, ?_⟩
    rw [show its.toArray.any (eqU x) = its.any (eqU x) by simp, any_eqU r fs]
    exact q
  · obtain ⟨its, r, pl, hz⟩ := I.tuple hq
    refine SeqAt.notIn_tupleAt (eqU x) pl (fun w hw => mem_eqAt rx fx r fs w (by simpa using hw)) ⟨.bl _, H, I, rfl, ?_⟩
    rw [show its.toArray.any (eqU x) = its.any (eqU x) by simp, any_eqU r fs]
    exact q
theorem call_len_seq : CallR X (.builtin "len") (fun xs H Q => ∃ p ys, xs = [.ref p] ∧ (SqL X.K H p ys ∨ SqT X.K H p ys) ∧ Q (.int ys.length) H) := by
  intro pins s σ H xs us Q I r h
  obtain ⟨p, ys, rfl, hq, q⟩ := h
  obtain ⟨u, rfl, rx⟩ := vals1 r
  cases rx
  have hn := line63
  rcases hq with hq | hq
  · obtain ⟨its, r', pl, hz⟩ := I.list hq
    have hlen := r'.length
    exact Calls.call_len_list pl.isList (by simp only [List.size_toArray] <;> omega) ⟨.int ys.length, H, I.tok _, ⟨s.toks + 1, by rw [List.size_toArray, hlen]⟩, q⟩
  · obtain ⟨its, r', pl, hz⟩ := I.tuple hq
    have hlen := r'.length
    exact len_tuple pl (by simp only [List.size_toArray] <;> omega) ⟨.int ys.length, H, I.tok _, ⟨s.toks + 1, by rw [List.size_toArray, hlen]⟩, q⟩
theorem call_list_of : CallR X (.type "list") (fun xs H Q => ∃ p ys, xs = [.ref p] ∧ (SqL X.K H p ys ∨ SqT X.K H p ys) ∧ ∀ l, H l = none → Q (.ref l) (upd H l (.lst ys))) := by
  intro pins s σ H xs us Q I r h
  obtain ⟨p, ys, rfl, hq, q⟩ := h
  obtain ⟨u, rfl, rx⟩ := vals1 r
  cases rx
  have fin : ∀ (its : List Value), Vals ys its → ys.length ≤ sizeLine → ∀ (h' : Heap) (c' : Nat), (∀ b o', s.heap.get? b = some o' → h'.get? b = some o') →
      h'.get? s.heap.objs.size = some { cls := .type "list", dict := none, data := .seq its.toArray c', slots := #[] } → EP X pins σ Q (.ref s.heap.objs.size) { s with heap := h' } := fun its r' hz h' c' kp e =>
    ⟨.ref s.heap.objs.size, _, I.laid (t' := s.toks) kp (Nat.le_refl _) (show ObjOk X.prog X.w _ h' _ (.lst ys) from ⟨hz, its, c', r', e⟩), rfl, q _ (I.hok.fresh (Nat.le_refl _))⟩
  rcases hq with hq | hq
  · obtain ⟨its, r', pl, hz⟩ := I.list hq
    have hlen := r'.length
    obtain ⟨o, ho, hc, n, hd⟩ := pl.isList
    exact call_list_seq p (.inl rfl) ho hc hd (fun h' c' kp e => fin its r' hz h' c' kp e) (by simp only [List.size_toArray] <;> omega)
  · obtain ⟨its, r', pl, hz⟩ := I.tuple hq
    have hlen := r'.length
    obtain ⟨o, ho, hc, n, hd⟩ := pl
    exact call_list_seq p (.inr rfl) ho hc hd (fun h' c' kp e => fin its r' hz h' c' kp e) (by simp only [List.size_toArray] <;> omega)
def tyV (K : PySem.W.Frag) (T : String) (x : V) (H : Hp) : Prop := match x with
  | .str _ => T = "str"
  | .int _ => T = "int"
  | .ref p => (T = "list" ∧ ∃ xs, SqL K H p xs) ∨ (T = "tuple" ∧ ∃ o, K.lookup p = some o ∧ o.cls = .type "tuple" ∧ o.dict = none) ∨
      (T = "dict" ∧ ((∃ kvs, H p = some (.dK kvs)) ∨ ∃ kvs, H p = some (.dT kvs))) ∨ (T = "set" ∧ ∃ S n, H p = some (.set S n))
  | _ => False
theorem tyV_is {pins : List (Addr × Obj)} {σ : St} {H : Hp} {s : Shared} {T : String} {x : V} {v : Value} (I : Inv X pins σ H s) (r : RelV x v) (ty : tyV X.K T x H) :
    s.TypeIs v T ∧ ∀ a, v = .ref a → ∃ ob, s.heap.get? a = some ob ∧ ob.dict = none := by
  cases x with
  | str z =>
    obtain ⟨t, rfl⟩ := r
    cases (show T = "str" from ty)
    exact ⟨typeIs_str s z t, fun _ e => nomatch e⟩
  | int i =>
    obtain ⟨t, rfl⟩ := r
    cases (show T = "int" from ty)
    exact ⟨typeIs_int s i t, fun _ e => nomatch e⟩
  | ref p =>
    cases r
    rcases ty with ⟨rfl, xs, hq⟩ | ⟨rfl, o, hk, hc, hd⟩ | ⟨rfl, hk⟩ | ⟨rfl, S, n, hk⟩
    · obtain ⟨its, _, pl, _⟩ := I.list hq
      refine ⟨pl.isList.typeIs, fun a e => ?_⟩
      cases e
      obtain ⟨o, n, e, c, hd, _⟩ := pl
      exact ⟨o, e, hd⟩
    · refine ⟨⟨o, I.kIn p o hk, hc⟩, fun a e => ?_⟩
      cases e
      exact ⟨o, I.kIn _ o hk, hd⟩
    · have z : ∃ o, s.heap.get? p = some o ∧ o.ExactDict := by
        rcases hk with ⟨kvs, hk⟩ | ⟨kvs, hk⟩
        · obtain ⟨_, _, _, _, o, _, _, e, ex, _⟩ := I.hok p _ hk
          exact ⟨o, e, ex⟩
        · obtain ⟨_, _, _, _, o, _, _, e, ex, _⟩ := I.hok p _ hk
          exact ⟨o, e, ex⟩
      obtain ⟨o, e, ex⟩ := z
      refine ⟨⟨o, e, ex.1⟩, fun a e2 => ?_⟩
      cases e2
      exact ⟨o, e, ex.2.1⟩
    · obtain ⟨o, _, _, _, e, ex, _⟩ := I.hok p _ hk
      refine ⟨⟨o, e, ex.1⟩, fun a e2 => ?_⟩
      cases e2
      exact ⟨o, e, ex.2.1⟩
  | _ => exact False.elim ty
def tBM0 (K : PySem.W.Frag) (T : String) (r : V → List V → Hp → VK → Prop) (to : TE) : TE := fun σ H Q => to σ H fun x H1 => tyV K T x H1 ∧ r x [] H1 Q
def tBM (K : PySem.W.Frag) (T : String) (r : V → List V → Hp → VK → Prop) (to : TE) (t : TA) : TE := fun σ H Q => to σ H fun x H1 => tyV K T x H1 ∧ t σ H1 fun xs H2 => r x xs H2 Q
variable {o e : Expr} {es : List Expr} {to : TE} {t : TA} {name : Str} {apos cpos : Pos} {T id : String} {r : V → List V → Hp → VK → Prop}
theorem pe_bm0 (pa : PlainAttrs T) (slot : Slot T name id) (hty : typeOf (.builtin id) = pure (.type "method_descriptor")) (hm : MtR X id r) (ho : PE X o to)
    (hbase : attributeBase o name X.env (eval o X.env) = eval o X.env := by rfl) (hline : (apos.endLine == cpos.line) = true := by rfl) : PE X (.Call (.Attribute o name apos) [] [] cpos) (tBM0 X.K T r to) := by
  intro pins s σ H Q I h
  refine wpAny_Call_method0_late hbase hline (thn (ho pins s σ H _ I h) fun v s1 ⟨x, H1, I1, r1, ty, q1⟩ => ?_)
  obtain ⟨h1, h2⟩ := tyV_is I1 r1 ty
  exact ⟨T, id, pa, slot, hty, h1, h2, Calls.callWith_builtin rfl (PySem.evalArgs_none (hm pins s1 σ H1 x [] v [] Q I1 r1 .nil q1))⟩
theorem pe_bm (pa : PlainAttrs T) (slot : Slot T name id) (hty : typeOf (.builtin id) = pure (.type "method_descriptor")) (hm : MtR X id r) (ho : PE X o to) (ha : PA X (e :: es) t)
    (hbase : attributeBase o name X.env (eval o X.env) = eval o X.env := by rfl)
    (hfew : ((backTo cpos (starEach (e :: es) X.env)).all (fun x => !x.1) && (backToKw cpos (keywordEach [] X.env)).all (fun x => x.1.isSome)
      && decide ((e :: es).length + ([] : List Keyword).length + (if ([] : List Keyword).isEmpty then 0 else 1) < 30)) = true := by rfl)
    (hline : (apos.endLine == cpos.line) = true := by rfl) (hs : starEach (e :: es) X.env = (false, eval e X.env) :: starEach es X.env := by rfl) (hplain : (backTo cpos (starEach es X.env)).any (·.1) = false := by rfl) :
    PE X (.Call (.Attribute o name apos) (e :: es) [] cpos) (tBM X.K T r to t) := by
  intro pins s σ H Q I h
  refine wpAny_Call_method_late hbase hfew hline rfl (thn (ho pins s σ H _ I h) fun v s1 ⟨x, H1, I1, r1, ty, q1⟩ => ?_)
  obtain ⟨h1, h2⟩ := tyV_is I1 r1 ty
  refine ⟨T, id, pa, slot, hty, h1, h2, ?_⟩
  have hA := ha cpos pins s1 σ H1 _ I1 q1
  rw [hs] at hA ⊢
  refine Calls.callWith_builtin (by show (false || (backTo cpos (starEach es X.env)).any (·.1)) = false; rw [hplain] <;> rfl) (Calls.evalArgs_plain ?_)
  exact thn hA fun us s2 ⟨vs, H2, I2, r2, q2⟩ => hm pins s2 σ H2 x vs v us Q I2 r1 r2 q2
/- xs.append(e), list.index on a module's tuple .. are MtR facts of 06m -/
end
end L2
namespace L2
open PySem PySem.Spec PyProof.Rows
def MtM (X : Cx) (id : String) (r : V → List V → Hp → VK → Prop) : Prop :=
  ∀ (pins : List (Addr × Obj)) (s : Shared) (σ : St) (H : Hp) (x : V) (xs : List V) (v : Value) (us : List Value) (Q : VK), Inv X pins σ H s → RelV x v → Vals xs us → r x xs H Q →
    wpAny (model X.prog X.w) X.A (call (.builtin id) (v :: us)) (EP X pins σ Q) X.xe s
theorem Vals.one : ∀ {x : V} {us : List Value}, Vals [x] us → ∃ u, us = [u] ∧ RelV x u
  | _, _, .cons r .nil => ⟨_, rfl, r⟩
theorem Vals.zero : ∀ {us : List Value}, Vals [] us → us = []
  | _, .nil => rfl
theorem Vals.dropLast {xs : List V} {us : List Value} (h : Vals xs us) : Vals xs.dropLast us.dropLast := by
  induction h with
  | nil => exact .nil
  | cons r t ih =>
    cases t with
    | nil => exact .nil
    | cons q t' => exact .cons r ih
theorem Vals.eraseIdx : ∀ {xs : List V} {us : List Value} (i : Nat), Vals xs us → Vals (xs.eraseIdx i) (us.eraseIdx i)
  | _, _, _, .nil => .nil
  | _, _, 0, .cons _ t => t
  | _, _, i + 1, .cons r t => .cons r (Vals.eraseIdx i t)
theorem Vals.rep {xs : List V} {us : List Value} (h : Vals xs us) : ∀ k : Nat, Vals (List.replicate k xs).flatten (List.replicate k us).flatten
  | 0 => .nil
  | k + 1 => by
    rw [List.replicate_succ, List.replicate_succ, List.flatten_cons, List.flatten_cons]
    exact Vals.append h (Vals.rep h k)
theorem erase_last {α : Type} (l : List α) : l.eraseIdx (l.length - 1) = l.dropLast := by
  induction l with
  | nil => rfl
  | cons a r ih =>
    cases r with
    | nil => rfl
    | cons b r =>
      have e : (a :: b :: r).length - 1 = ((b :: r).length - 1) + 1 := by
        have h1 : (a :: b :: r).length = r.length + 2 := rfl
        have h2 : (b :: r).length = r.length + 1 := rfl
        omega
      rw [e, List.eraseIdx_cons_succ, ih]
      all_goals rfl
theorem len_erase {α : Type} : ∀ (l : List α) (i : Nat), (l.eraseIdx i).length ≤ l.length
  | [], _ => Nat.le_refl _
  | _ :: _, 0 => Nat.le_succ _
  | _ :: r, i + 1 => Nat.succ_le_succ (len_erase r i)
theorem foldl_rep (its : List Value) : ∀ (k : Nat) (acc : List Value),
    List.foldl (fun x1 x2 => x1 ++ x2) acc.toArray (List.replicate k its.toArray) = (acc ++ (List.replicate k its).flatten).toArray
  | 0, acc => by simp
  | k + 1, acc => by
    have e : acc.toArray ++ its.toArray = (acc ++ its).toArray := by simp
    have e2 : (acc ++ its) ++ (List.replicate k its).flatten = acc ++ (List.replicate (k + 1) its).flatten := by
      rw [List.replicate_succ, List.flatten_cons, List.append_assoc]
    rw [← e2, ← foldl_rep its k (acc ++ its), ← e, List.replicate_succ, List.foldl_cons]
section
variable {X : Cx} {pins : List (Addr × Obj)} {σ : St} {H : Hp} {s : Shared} {l b : Addr} {xs ys zs : List V}
theorem Inv.lset {its its' : List Value} {n : Nat} {f : Array Value → Array Value} {t' : Nat} (I : Inv X pins σ H s) (hH : H l = some (.lst xs))
    (e : s.heap.get? l = some { cls := .type "list", data := .seq its.toArray n }) (hf : f its.toArray = its'.toArray) (hv : Vals ys its') (hz : ys.length ≤ sizeLine) :
    Inv X pins σ (upd H l (.lst ys)) { s with heap := s.heap.update l (Obj.mapSeq f), toks := t' } := by
  have q := PySem.IsL.update e f
  rw [hf] at q
  refine I.write (x := l) (e := l) (by rw [hH]; exact trivial) (.inl rfl) (fun b' u hb hu => (Heap.get?_update_other s.heap (Obj.mapSeq f) (Ne.symm hb)).trans hu) ⟨_, q⟩ ?_
  exact ⟨hz, its', _, hv, q⟩
theorem Inv.lnew {its : List Value} {t' : Nat} (I : Inv X pins σ H s) (hv : Vals ys its) (hz : ys.length ≤ sizeLine) :
    Inv X pins σ (upd H s.heap.objs.size (.lst ys)) { s with heap := s.heap.push { cls := .type "list", data := .seq its.toArray }, toks := t' } :=
  I.laid (fun _ _ q => Heap.get?_push_of_some _ q) (Nat.le_refl _) ⟨hz, its, 0, hv, Heap.get?_push_size _ rfl⟩
theorem Inv.fresh (I : Inv X pins σ H s) : H s.heap.objs.size = none := I.hok.fresh (Nat.le_refl _)
theorem Inv.lstM (I : Inv X pins σ H s) (hH : H l = some (.lst xs)) : xs.length ≤ sizeLine ∧ ∃ (its : List Value) (n : Nat), Vals xs its ∧ xs.length = its.length ∧ s.heap.get? l = some { cls := .type "list", data := .seq its.toArray n } := by
  obtain ⟨z, its, n, r, e⟩ := I.hok l _ hH
  exact ⟨z, its, n, r, r.length, e⟩
theorem notLongL {n : Nat} (h : n ≤ sizeLine) : Builtin.List.listTooLong n = false := by
  unfold Builtin.List.listTooLong
  exact decide_eq_false (by omega)
end
section
variable {X : Cx}
def rAppend : V → List V → Hp → VK → Prop := fun x vs H Q => ∃ l xs y, x = .ref l ∧ vs = [y] ∧ H l = some (.lst xs) ∧ xs.length < sizeLine ∧ Q .non (upd H l (.lst (xs ++ [y])))
theorem mt_append : MtM X "list.append" rAppend := by
  intro pins s σ H x vs v us Q I rx rv h
  obtain ⟨l, xs, y, rfl, rfl, hH, hz, q⟩ := h
  cases rx
  obtain ⟨u, rfl, ru⟩ := rv.one
  obtain ⟨z, its, n, r, hl, e⟩ := I.lstM hH
  refine call_meets F.slot_list_append ⟨_, e, rfl⟩ F.entry_list_append (F.args_list_append_2 _ _) (PySem.list_append l its.toArray n u (by rw [List.size_toArray]; omega)) ⟨e, ?_⟩
  refine ⟨.non, _, I.lset (its' := its ++ [u]) hH e (by simp) (r.append (.cons ru .nil)) ?_, rfl, q⟩
  rw [List.length_append, List.length_singleton]
  omega
def rExtend : V → List V → Hp → VK → Prop := fun x vs H Q => ∃ l b xs zs, x = .ref l ∧ vs = [.ref b] ∧ H l = some (.lst xs) ∧ H b = some (.lst zs) ∧ xs.length + zs.length ≤ sizeLine ∧ Q .non (upd H l (.lst (xs ++ zs)))
theorem mt_extend : MtM X "list.extend" rExtend := by
  intro pins s σ H x vs v us Q I rx rv h
  obtain ⟨l, b, xs, zs, rfl, rfl, hH, hB, hz, q⟩ := h
  cases rx
  obtain ⟨u, rfl, ru⟩ := rv.one
  cases ru
  obtain ⟨z, its, n, r, hl, e⟩ := I.lstM hH
  obtain ⟨z2, its2, n2, r2, hl2, e2⟩ := I.lstM hB
  have hsz : its.toArray.size + its2.toArray.size ≤ sizeLine := by rw [List.size_toArray, List.size_toArray]; omega
  have hlong : ¬ (!its.toArray.isEmpty && Builtin.List.listTooLong (its.toArray.size + its2.toArray.size)) = true := by
    rw [notLongL hsz, Bool.and_false]
    exact Bool.false_ne_true
  refine call_meets F.slot_list_extend ⟨_, e, rfl⟩ F.entry_list_extend (F.args_list_extend_2 _ _)
    (AutoSeq1.list_extend_list_list_0 l its.toArray n b its2.toArray n2 hlong (by rw [List.size_toArray]; omega) (by omega)) ⟨e, e2, ?_⟩
  refine ⟨.non, _, I.lset (its' := its ++ its2) hH e (by simp) (r.append r2) ?_, rfl, q⟩
  rw [List.length_append]
  omega
def rPop : V → List V → Hp → VK → Prop := fun x vs H Q => ∃ l xs y, x = .ref l ∧ vs = [] ∧ H l = some (.lst xs) ∧ xs[xs.length - 1]? = some y ∧ Q y (upd H l (.lst xs.dropLast))
theorem mt_pop : MtM X "list.pop" rPop := by
  intro pins s σ H x vs v us Q I rx rv h
  obtain ⟨l, xs, y, rfl, rfl, hH, hy, q⟩ := h
  cases rx
  have hus := rv.zero
  subst hus
  obtain ⟨z, its, n, r, hl, e⟩ := I.lstM hH
  obtain ⟨u, hu, ru⟩ := r.get hy
  have hy' : its.toArray[its.toArray.size - 1]? = some u := by
    show its.toArray[its.length - 1]? = some u
    rw [← Array.getElem?_toList, ← hl]
    exact hu
  refine call_meets F.slot_list_pop ⟨_, e, rfl⟩ F.entry_list_pop (F.args_list_pop_1 _) (MeetsSeq.list_pop_last l its.toArray n u hy' (by rw [List.size_toArray]; omega)) ⟨e, ?_⟩
  refine ⟨y, _, I.lset (its' := its.dropLast) hH e ?_ r.dropLast ?_, ru, q⟩
  · show its.toArray.eraseIdxIfInBounds (its.toArray.size - 1) = its.dropLast.toArray
    rw [List.size_toArray, List.eraseIdxIfInBounds_toArray, erase_last]
  · rw [List.length_dropLast]
    omega
def rCat : R2 := fun x y H Q => ∃ l b xs zs, x = .ref l ∧ y = .ref b ∧ H l = some (.lst xs) ∧ H b = some (.lst zs) ∧ xs.length + zs.length ≤ sizeLine ∧ ∀ p, H p = none → Q (.ref p) (upd H p (.lst (xs ++ zs)))
theorem op_cat : OpR X (binaryOp .Add) rCat := by
  intro pins s σ H x y v u Q I rx ry h
  obtain ⟨l, b, xs, zs, rfl, rfl, hH, hB, hz, q⟩ := h
  cases rx
  cases ry
  obtain ⟨z, its, n, r, hl, e⟩ := I.lstM hH
  obtain ⟨z2, its2, n2, r2, hl2, e2⟩ := I.lstM hB
  refine PySem.P.add_list e e2 ?_ (by rw [List.size_toArray, List.size_toArray]; omega)
  have ea : its.toArray ++ its2.toArray = (its ++ its2).toArray := by simp
  rw [ea]
  exact ⟨.ref _, _, I.lnew (t' := s.toks) (r.append r2) (by rw [List.length_append]; omega), rfl, q _ I.fresh⟩
def rRep : R2 := fun x y H Q => ∃ l k xs, x = .ref l ∧ y = .int k ∧ H l = some (.lst xs) ∧ -(2 ^ 63) ≤ k ∧ k < 2 ^ 63 ∧ xs.length * k.toNat ≤ sizeLine ∧
  ∀ p, H p = none → Q (.ref p) (upd H p (.lst (List.replicate k.toNat xs).flatten))
theorem len_rep {α : Type} (xs : List α) (k : Nat) : (List.replicate k xs).flatten.length = k * xs.length := by
  induction k with
  | zero => simp
  | succ k ih => rw [List.replicate_succ, List.flatten_cons, List.length_append, ih, Nat.succ_mul, Nat.add_comm]
theorem op_rep : OpR X (binaryOp .Mult) rRep := by
  intro pins s σ H x y v u Q I rx ry h
  obtain ⟨l, k, xs, rfl, rfl, hH, h1, h2, hz, q⟩ := h
  cases rx
  obtain ⟨t, rfl⟩ := ry
  obtain ⟨z, its, n, r, hl, e⟩ := I.lstM hH
  have hlen : its.toArray.size * k.toNat ≤ sizeLine := by rw [List.size_toArray, ← hl]; exact hz
  have hcap : ¬ its.toArray.size * k.toNat > (2 ^ 63 - 1) / 8 := by
    have : (sizeLine : Nat) ≤ (2 ^ 63 - 1) / 8 := by decide
    omega
  have hfit : ¬ (!Builtin.List.listFitsIndex k) = true := by
    rw [fitsIndex_both h1 h2]
    exact Bool.false_ne_true
  have hlong : ¬ Builtin.List.listTooLong (its.toArray.size * k.toNat) = true := by
    rw [notLongL hlen]
    exact Bool.false_ne_true
  have hnew : List.foldl (fun x1 x2 => x1 ++ x2) #[] (List.replicate (if its.toArray.isEmpty = true then 0 else k.toNat) its.toArray) = (List.replicate k.toNat its).flatten.toArray := by
    have f0 : ∀ m : Nat, List.foldl (fun x1 x2 => x1 ++ x2) #[] (List.replicate m its.toArray) = (List.replicate m its).flatten.toArray := fun m => by
      have := foldl_rep its m []
      rw [List.nil_append] at this
      exact this
    rw [f0]
    cases its with
    | nil => simp
    | cons a r' => rw [if_neg (by simp)]
  refine wpAny_binaryOp_repeat_ref (T := "list") (U := "int") (by decide) ⟨_, e, rfl⟩ (fun s' => typeIs_int s' k t) noFill_list_mul F.fills_int_mul F.slot_int_rmul repeat_list F.slot_int_index.lookup
    (call_meets F.slot_int_rmul (typeIs_int s k t) F.entry_int_rmul (F.args_int_rmul_2 _ _) (int___rmul___int_list k t l its.toArray n)
      ⟨e, rfl, ⟨_, e, rfl⟩, call_meets F.slot_list_mul ⟨_, e, rfl⟩ F.entry_list_mul (F.args_list_mul_2 _ _) (AutoListH.list___mul___list_int_3 l its.toArray n k t hfit hcap hlong) ⟨e, ?_⟩⟩)
  rw [hnew]
  exact ⟨.ref _, _, I.lnew (t' := s.toks) (r.rep k.toNat) (by rw [len_rep, Nat.mul_comm]; exact hz), rfl, q _ I.fresh⟩
end
section
variable {prog : Program} {w : World} {A : Around} {E : Value → Shared → Prop} {s : Shared}
set_option maxRecDepth 100000 in
end
section
variable {X : Cx}
end
end L2
namespace L2
open PySem PySem.Spec PyProof.Rows
theorem Vals.ints : ∀ {ns : List Int} {us : List Value}, Vals (ns.map V.int) us → IntsAre us ns
  | [], us, h => by
    rw [List.map_nil] at h
    cases h
    exact IntsAre.nil
  | n :: ns, us, h => by
    rw [List.map_cons] at h
    cases h with
    | cons r t =>
      obtain ⟨k, rfl⟩ := r
      exact IntsAre.cons n k (Vals.ints t)
theorem Vals.bls : ∀ {bs : List Bool} {us : List Value}, Vals (bs.map V.bl) us → us = bs.map Value.bool
  | [], us, h => by
    rw [List.map_nil] at h
    cases h
    rfl
  | b :: bs, us, h => by
    rw [List.map_cons] at h
    cases h with
    | cons r t =>
      cases r
      rw [Vals.bls t, List.map_cons]
theorem Vals.ref1 {a : Addr} {us : List Value} (r : Vals [V.ref a] us) : us = [Value.ref a] := by
  cases r with
  | cons r t =>
    cases t
    cases r
    rfl
section
variable {prog : Program} {w : World} {A : Around} {E : Value → Shared → Prop} {s : Shared} {l : Addr} {its : List Value} {ns : List Int} {Q : Value → Shared → Prop}
theorem sum_raw (hh : A.handled = none) (hl : s.heap.IsList l its.toArray) (hi : IntsAre its ns)
    (h : ∀ h' tk t', (∀ b o, s.heap.get? b = some o → h'.get? b = some o) → Q (.int ns.sum t') { s with heap := h', toks := tk }) : wpAny (model prog w) A (call (.builtin "sum") [.ref l]) Q E s := by
  obtain ⟨xs, e⟩ := hi.allInts.items
  have hn : numsOf (intItems xs).toList = ns := by rw [← e]; exact hi.numsOf
  rw [nums_intItems] at hn
  rw [e] at hl
  refine PySem.sum_intListG hh hl fun h' tk t' hk => ?_
  have := h h' tk t' hk
  rw [preSum_eq, List.take_of_length_le (by simp), hn]; exact this
end
section
variable {X : Cx}
def rSum (K : PySem.W.Frag) : List V → Hp → VK → Prop := fun vs H Q => ∃ (a : Addr) (ns : List Int), vs = [V.ref a] ∧ SqL K H a (ns.map V.int) ∧ Q (.int ns.sum) H
theorem cr_sum (hc : X.calm = true) : CallR X (.builtin "sum") (rSum X.K) := by
  intro pins s σ H vs us Q I r h
  obtain ⟨a, ns, rfl, hs, q⟩ := h
  obtain ⟨its, rv, hl, _⟩ := I.list hs
  rw [Vals.ref1 r]
  exact sum_raw (I.ok.hd hc) hl.isList rv.ints fun h' tk t' hk => ⟨.int _, H, I.kept hk, ⟨_, rfl⟩, q⟩
end
section
variable {X : Cx}
def rIndex (K : PySem.W.Frag) : V → List V → Hp → VK → Prop := fun x xs H Q => ∃ (a : Addr) (ys : List V) (y : V) (j : Nat) (z : V), x = V.ref a ∧ xs = [y] ∧ SqL K H a ys ∧ flatV y = true ∧ ys.all flatV = true ∧ ys[j]? = some z ∧ eqV z y = true ∧
  (∀ (m : Nat) (z' : V), m < j → ys[m]? = some z' → eqV z' y = false) ∧ Q (.int (j : Nat)) H
theorem flat_at {ys : List V} (f : ys.all flatV = true) {j : Nat} {z : V} (h : ys[j]? = some z) : flatV z = true := List.all_eq_true.mp f z (List.mem_of_getElem? h)
theorem mt_index : MtR X "list.index" (rIndex X.K) := by
  intro pins s σ H x xs v us Q I rx rxs h
  obtain ⟨a, ys, y, j, z, rfl, rfl, hs, fy, fys, hz, hzj, hno, q⟩ := h
  cases rx
  cases rxs with
  | cons ry rt =>
    rename_i uy ut
    cases rt
    obtain ⟨its, rv, ⟨⟨cls, dd, data, sl⟩, n, ho, hc, hdn, hd⟩, hlen⟩ := I.list hs
    simp only at hc hd
    subst hc hd
    obtain ⟨u, hu, ru⟩ := rv.get hz
    obtain ⟨hjl, hje⟩ := List.getElem?_eq_some_iff.mp hu
    have hvl := rv.length
    have hj : j < its.toArray.size := by simpa using hjl
    have hsl := sizeLine_eq
    refine call_meets PySem.F.slot_list_index ⟨_, ho, rfl⟩ PySem.F.entry_list_index (PySem.F.args_list_index_2 _ _)
      (SeqAt.list_indexAt a its.toArray n dd sl uy (eqU y) j hj (by omega) ?_ ?_) ⟨ho, fun u' hu' => mem_eqAt ry fy rv fys u' (by simpa using hu'), ?_⟩
    · have e1 : its.toArray[j] = u := by simpa using hje
      rw [e1, eqU_of ru (flat_at fys hz)]
      exact hzj
    · intro m hm hmj
      have hml : m < its.length := by simpa using hm
      have hmy : m < ys.length := by omega
      have hy' : ys[m]? = some ys[m] := List.getElem?_eq_getElem hmy
      obtain ⟨u2, hu2, ru2⟩ := rv.get hy'
      obtain ⟨_, hme⟩ := List.getElem?_eq_some_iff.mp hu2
      have e1 : its.toArray[m] = u2 := by simpa using hme
      rw [e1, eqU_of ru2 (flat_at fys hy')]
      exact hno m _ hmj hy'
    · exact ⟨.int (j : Nat), H, I.tok _, ⟨_, rfl⟩, q⟩
end
section
variable {X : Cx}
end
theorem iter_any {prog : Program} {w : World} {A : Around} {E : Value → Shared → Prop} {s : Shared} {l : Addr} {items : Array Value} {Q : Value → Shared → Prop} (hl : s.heap.IsList l items)
    (h : ∀ s₂ : Shared, s₂ = { s with heap := s.heap.push { cls := .type "list_iterator", data := .fields #[.ref l, .int 0 0] } } →
      (s₂.heap.IsListIter s.heap.objs.size l 0 ∧ s₂.heap.IsList l items) → l ≠ s.heap.objs.size → Q (.ref s.heap.objs.size) s₂) : wpAny (model prog w) A (pyIter (.ref l)) Q E s := by
  have hlt : l < s.heap.objs.size := by obtain ⟨_, e, _⟩ := hl; exact Heap.lt_size e
  exact wpAny_pyIter_list hl (h _ rfl ⟨⟨_, Heap.get?_push_size _ rfl, rfl, rfl⟩, hl.push _⟩ (Nat.ne_of_lt hlt))
theorem truth_bools {prog : Program} {w : World} {A : Around} {bs : List Bool} {its : List Value} (e : its = bs.map Value.bool) :
    TruthOf prog w A (fun i v => its.toArray[i]? = some v) (fun i => bs.getD i false) := fun i v s Q E hv hq => by
  have hv' : its[i]? = some v := by simpa using hv
  rw [e, List.getElem?_map] at hv'
  obtain ⟨b, hb, rfl⟩ := Option.map_eq_some_iff.mp hv'
  have hg : bs.getD i false = b := by rw [List.getD_eq_getElem?_getD, hb] <;> rfl
  have hq' : Q (bs.getD i false) s := hq
  rw [hg] at hq'
  exact wpAny_truthy_bool hq'
theorem any_range : ∀ bs : List Bool, (List.range bs.length).any (fun i => bs.getD i false) = bs.any id
  | [] => rfl
  | b :: bs => by
    rw [List.length_cons, List.range_succ_eq_map, List.any_cons, List.any_map, List.any_cons, ← any_range bs]
    all_goals rfl
section
variable {X : Cx}
def rAny (K : PySem.W.Frag) : List V → Hp → VK → Prop := fun vs H Q => ∃ (a : Addr) (bs : List Bool), vs = [V.ref a] ∧ SqL K H a (bs.map V.bl) ∧ Q (.bl (bs.any id)) H
theorem cr_any (hc : X.calm = true) : CallR X (.builtin "any") (rAny X.K) := by
  intro pins s σ H vs us Q I r h
  obtain ⟨a, bs, rfl, hs, q⟩ := h
  obtain ⟨its, rv, hl, _⟩ := I.list hs
  rw [Vals.ref1 r]
  have hb := rv.bls
  refine call_any_walk (iter_any hl.isList fun s₂ e2 st hne => ?_)
  subst e2
  refine ⟨_, _, _, _, _, _, _, rfl, Walks.list (A := X.A.in1) (I.ok.hd hc) _ a hne its.toArray, st, truth_bools hb, fun h' tk hk => ?_⟩
  refine ⟨.bl _, H, I.kept fun b o eo => hk b o (fun hmem => ?_) (Heap.get?_push_of_some _ eo), ?_, q⟩
  · rcases List.mem_cons.mp hmem with e1 | hmem
    · exact absurd (e1 ▸ Heap.lt_size eo) (Nat.lt_irrefl _)
    · cases hmem
  · show Value.bool _ = Value.bool _
    rw [← any_range, hb, List.size_toArray, List.length_map]
end
mutual
inductive Dp (K : PySem.W.Frag) (H : Hp) : V → PyData → Prop
  | non : Dp K H .non .none
  | bl (b : Bool) : Dp K H (.bl b) (.bool b)
  | int (i : Int) : Dp K H (.int i) (.int i)
  | str (x : Str) : Dp K H (.str x) (.str x)
  | lst {a : Addr} {xs : List V} {ds : List PyData} : SqL K H a xs → DpAll K H xs ds → Dp K H (.ref a) (.list ds)
  | tup {a : Addr} {xs : List V} {ds : List PyData} : SqT K H a xs → DpAll K H xs ds → Dp K H (.ref a) (.tuple ds)
inductive DpAll (K : PySem.W.Frag) (H : Hp) : List V → List PyData → Prop
  | nil : DpAll K H [] []
  | cons {v : V} {vs : List V} {d : PyData} {ds : List PyData} : Dp K H v d → DpAll K H vs ds → DpAll K H (v :: vs) (d :: ds)
end
section
variable {X : Cx} {pins : List (Addr × Obj)} {σ : St} {H : Hp} {s : Shared}
mutual
theorem Dp.reads (I : Inv X pins σ H s) : ∀ (d : PyData) (v : V) (u : Value), Dp X.K H v d → RelV v u → ∃ as, Reads s.heap u d as
  | .none, _, _, h, r => by
    cases h
    cases r
    exact ⟨_, Reads.none⟩
  | .bool b, _, _, h, r => by
    cases h
    cases r
    exact ⟨_, Reads.bool b⟩
  | .int i, _, _, h, r => by
    cases h
    obtain ⟨t, rfl⟩ := r
    exact ⟨_, Reads.int i t⟩
  | .str x, _, _, h, r => by
    cases h
    obtain ⟨t, rfl⟩ := r
    exact ⟨_, Reads.str x t⟩
  | .list ds, _, _, h, r => by
    cases h with
    | lst hs ha =>
      cases r
      obtain ⟨its, rv, ⟨o, n, ho, hc, _, hd⟩, _⟩ := I.list hs
      obtain ⟨as, hr⟩ := Dp.readsAll I ds _ its ha rv
      exact ⟨_, Reads.list ho hc hd hr⟩
  | .tuple ds, _, _, h, r => by
    cases h with
    | tup hs ha =>
      cases r
      obtain ⟨its, rv, ⟨o, ho, hc, n, hd⟩, _⟩ := I.tuple hs
      obtain ⟨as, hr⟩ := Dp.readsAll I ds _ its ha rv
      exact ⟨_, Reads.tuple ho hc hd hr⟩
  | .dict _, _, _, h, _ => by cases h
theorem Dp.readsAll (I : Inv X pins σ H s) : ∀ (ds : List PyData) (vs : List V) (us : List Value), DpAll X.K H vs ds → Vals vs us → ∃ as, ReadsAll s.heap us ds as
  | [], _, _, h, r => by
    cases h
    cases r
    exact ⟨_, ReadsAll.nil⟩
  | d :: ds, _, _, h, r => by
    cases h with
    | cons h1 h2 =>
      cases r with
      | cons r1 r2 =>
        obtain ⟨as, q1⟩ := Dp.reads I d _ _ h1 r1
        obtain ⟨bs, q2⟩ := Dp.readsAll I ds _ _ h2 r2
        exact ⟨_, ReadsAll.cons q1 q2⟩
end
end
section
variable {X : Cx}
end
end L2
namespace L2
open PySem PySem.Spec PyProof.Rows
abbrev CellAt (h : Heap) (c : Addr) (v : Option Value) : Prop := h.IsCell c v
def relS (scope sc : Scope) : Scope :=
  { scope with names := scope.names.map fun (n, k) => if (k == .free && sc.kind == .function && sc.names.lookup n == some .cell) then (n, .cell) else (n, k) }
def cloFrom (cells : List (Str × Addr)) : List (Str × NameKind) → List (Str × Addr) → List (Str × Addr)
  | [], acc => acc
  | (n, k) :: r, acc => if k == .free then cloFrom cells r ((n, (cells.lookup n).getD 0) :: acc) else cloFrom cells r acc
theorem closure_loop (env : Env) (f : Str × NameKind → List (Str × Addr) → Sem (ForInStep (List (Str × Addr))))
    (hf : ∀ n k c, f (n, k) c = if k == .free then (do let a ← cellOf env n; pure (.yield ((n, a) :: c))) else pure (.yield c)) :
    ∀ (names : List (Str × NameKind)) (acc : List (Str × Addr)), (∀ y ∈ names, y.2 = .free → ∃ c, env.cells.lookup y.1 = some c) → forIn names acc f = pure (cloFrom env.cells names acc)
  | [], acc, _ => by rw [List.forIn_nil]; rfl
  | (n, k) :: r, acc, h => by
    rw [List.forIn_cons, hf]
    have ih := fun acc => closure_loop env f hf r acc fun y hy => h y (List.mem_cons_of_mem _ hy)
    unfold cloFrom
    by_cases hk : (k == NameKind.free) = true
    · rw [if_pos hk, if_pos hk]
      obtain ⟨c, hc⟩ := h (n, k) List.mem_cons_self (by simpa using hk)
      have e : cellOf env n = pure c := by unfold cellOf; rw [hc]
      rw [e]
      have e2 : (env.cells.lookup n).getD 0 = c := by rw [hc]; rfl
      rw [e2]
      exact ih _
    · rw [if_neg hk, if_neg hk]
      exact ih _
theorem closure_ok {scope : Scope} {env : Env} (h : ∀ y ∈ scope.names, y.2 = .free → ∃ c, env.cells.lookup y.1 = some c) : closureFor scope env = pure (cloFrom env.cells scope.names []) := by
  simp only [closureFor]
  rw [closure_loop env _ (fun n k c => rfl) scope.names [] h]
  rfl
theorem mem_lookup {α : Type} : ∀ {l : List (Str × α)} {n : Str} {c : α}, (n, c) ∈ l → ∃ c', l.lookup n = some c'
  | (k, v) :: r, n, c, h => by
    rw [List.lookup_cons]
    cases hb : n == k with
    | true => exact ⟨_, rfl⟩
    | false =>
      rcases List.mem_cons.mp h with e | h
      · cases e; simp at hb
      · exact mem_lookup h
theorem cloFrom_mem {cells : List (Str × Addr)} : ∀ {names : List (Str × NameKind)} {acc : List (Str × Addr)} {n : Str} {c : Addr}, (n, c) ∈ cloFrom cells names acc → (n, c) ∈ acc ∨ ((n, .free) ∈ names ∧ c = (cells.lookup n).getD 0)
  | [], _, _, _, h => .inl h
  | (m, k) :: r, acc, n, c, h => by
    unfold cloFrom at h
    split at h
    · rename_i hk
      have hk : k = .free := by simpa using hk
      rcases cloFrom_mem h with h | ⟨h1, h2⟩
      · rcases List.mem_cons.mp h with e | h
        · cases e; exact .inr ⟨hk ▸ List.mem_cons_self, rfl⟩
        · exact .inl h
      · exact .inr ⟨List.mem_cons_of_mem _ h1, h2⟩
    · rcases cloFrom_mem h with h | ⟨h1, h2⟩
      · exact .inl h
      · exact .inr ⟨List.mem_cons_of_mem _ h1, h2⟩
theorem cloFrom_acc {cells : List (Str × Addr)} : ∀ {names : List (Str × NameKind)} {acc : List (Str × Addr)} {p : Str × Addr}, p ∈ acc → p ∈ cloFrom cells names acc
  | [], _, _, h => h
  | (m, k) :: r, acc, p, h => by
    unfold cloFrom
    split
    · exact cloFrom_acc (List.mem_cons_of_mem _ h)
    · exact cloFrom_acc h
theorem cloFrom_has {cells : List (Str × Addr)} : ∀ {names : List (Str × NameKind)} {acc : List (Str × Addr)} {n : Str}, (n, .free) ∈ names → (n, (cells.lookup n).getD 0) ∈ cloFrom cells names acc
  | (m, k) :: r, acc, n, h => by
    unfold cloFrom
    rcases List.mem_cons.mp h with e | h
    · cases e
      exact cloFrom_acc List.mem_cons_self
    · split
      · exact cloFrom_has h
      · exact cloFrom_has h
theorem cells_mem : ∀ {names : List (Str × NameKind)} {h : Heap} {acc : List (Str × Addr)} {x : Str} {c : Addr}, (x, c) ∈ cellsFrom h.objs.size names acc →
    (x, c) ∈ acc ∨ ((x, .cell) ∈ names ∧ h.objs.size ≤ c ∧ CellAt (pushCells h names) c none)
  | [], _, _, _, _, h => .inl h
  | (n, k) :: r, h, acc, x, c, hm => by
    unfold cellsFrom at hm
    unfold pushCells
    split at hm
    · rename_i hk
      rw [if_pos hk]
      have hk : k = .cell := by simpa using hk
      rw [← Heap.size_push h { cls := .type "cell", data := .cell none }] at hm
      rcases cells_mem hm with hm | ⟨h1, h2, h3⟩
      · rcases List.mem_cons.mp hm with e | hm
        · cases e
          exact .inr ⟨hk ▸ List.mem_cons_self, Nat.le_refl _, _, pushCells_keeps r _ _ _ (Heap.get?_push_size _ rfl), rfl⟩
        · exact .inl hm
      · rw [Heap.size_push] at h2
        exact .inr ⟨List.mem_cons_of_mem _ h1, Nat.le_of_succ_le h2, h3⟩
    · rename_i hk
      rw [if_neg hk]
      rcases cells_mem hm with hm | ⟨h1, h2, h3⟩
      · exact .inl hm
      · exact .inr ⟨List.mem_cons_of_mem _ h1, h2, h3⟩
theorem cells_acc : ∀ {names : List (Str × NameKind)} {n : Nat} {acc : List (Str × Addr)} {p : Str × Addr}, p ∈ acc → p ∈ cellsFrom n names acc
  | [], _, _, _, h => h
  | (m, k) :: r, n, acc, p, h => by
    unfold cellsFrom
    split
    · exact cells_acc (List.mem_cons_of_mem _ h)
    · exact cells_acc h
theorem cells_has : ∀ {names : List (Str × NameKind)} {n : Nat} {acc : List (Str × Addr)} {x : Str}, (x, .cell) ∈ names → ∃ c, (x, c) ∈ cellsFrom n names acc
  | (m, k) :: r, n, acc, x, h => by
    unfold cellsFrom
    rcases List.mem_cons.mp h with e | h
    · cases e
      exact ⟨n, cells_acc List.mem_cons_self⟩
    · split
      · exact cells_has h
      · exact cells_has h
theorem cells_inj : ∀ {names : List (Str × NameKind)} {h : Heap} {acc : List (Str × Addr)} {x y : Str} {c : Addr}, (∀ p ∈ acc, p.2 < h.objs.size) → (∀ x y c, (x, c) ∈ acc → (y, c) ∈ acc → x = y) →
    (x, c) ∈ cellsFrom h.objs.size names acc → (y, c) ∈ cellsFrom h.objs.size names acc → x = y
  | [], _, _, _, _, _, _, hi, h1, h2 => hi _ _ _ h1 h2
  | (n, k) :: r, h, acc, x, y, c, hl, hi, h1, h2 => by
    unfold cellsFrom at h1 h2
    split at h1
    · rename_i hk
      rw [if_pos hk] at h2
      rw [← Heap.size_push h { cls := .type "cell", data := .cell none }] at h1 h2
      refine cells_inj (h := h.push _) (fun p hp => ?_) (fun x y c a b => ?_) h1 h2
      · rw [Heap.size_push]
        rcases List.mem_cons.mp hp with rfl | hp
        · exact Nat.lt_succ_self _
        · exact Nat.lt_succ_of_lt (hl p hp)
      · rcases List.mem_cons.mp a with e | a <;> rcases List.mem_cons.mp b with e' | b
        · cases e; cases e'; rfl
        · cases e; exact absurd (hl _ b) (Nat.lt_irrefl _)
        · cases e'; exact absurd (hl _ a) (Nat.lt_irrefl _)
        · exact hi _ _ _ a b
    · rename_i hk
      rw [if_neg hk] at h2
      exact cells_inj hl hi h1 h2
theorem newEnv_comp {M : Model} {A : Around} {E : Value → Shared → Prop} {s : Shared} {scope : Scope} {globals : Addr} {closure : List (Str × Addr)} {qual : Str} {func : Option Addr} {code : Value} {around : Env} {builtins : Addr} {Q : Env → Shared → Prop}
    (h : Q (newEnv scope s.heap.objs.size globals (cellsFrom (s.heap.objs.size + 1) scope.names closure) qual func code (some around) builtins)
      { s with heap := pushCells (s.heap.push { cls := .type "dict", data := .dict #[] }) scope.names }) :
    wpAny M A (newFunctionEnv scope globals closure [] qual func code (some around) builtins) Q E s := by
  simp only [newFunctionEnv, Option.isSome_some, if_true]
  refine wpAny_bind (wpAny_alloc ?_)
  refine wpAny_bind (wpAny_layCells _ (fun n k c => rfl) scope.names closure _ _ ?_)
  rw [show ({ s with heap := s.heap.push { cls := .type "dict", data := .dict #[] } } : Shared).heap.objs.size = s.heap.objs.size + 1 from Heap.size_push ..]
  rw [List.forIn_nil]
  exact wpAny_bind (wpAny_pure (wpAny_pure h))
theorem lookup_relS {sc : Scope} : ∀ {names : List (Str × NameKind)} {x : Str} {k : NameKind},
    (names.map fun (n, k) => if (k == NameKind.free && sc.kind == .function && sc.names.lookup n == some .cell) then (n, NameKind.cell) else (n, k)).lookup x = some k →
    ∃ k', names.lookup x = some k' ∧ (k = k' ∨ (k' = .free ∧ k = .cell))
  | [], _, _, h => by simp at h
  | (n, k₀) :: r, x, k, h => by
    have ih := @lookup_relS sc r x k
    have h' : List.lookup x ((if (k₀ == NameKind.free && sc.kind == .function && sc.names.lookup n == some .cell) = true then (n, NameKind.cell) else (n, k₀)) :: (r.map _)) = some k := h
    cases hx : x == n with
    | true =>
      simp only [List.lookup_cons, hx]
      by_cases hc : (k₀ == NameKind.free && sc.kind == .function && sc.names.lookup n == some .cell) = true
      · rw [if_pos hc] at h'
        simp only [List.lookup_cons, hx] at h'
        cases h'
        simp only [Bool.and_eq_true, beq_iff_eq] at hc
        exact ⟨k₀, rfl, .inr ⟨hc.1.1, rfl⟩⟩
      · rw [if_neg hc] at h'
        simp only [List.lookup_cons, hx] at h'
        cases h'
        exact ⟨_, rfl, .inl rfl⟩
    | false =>
      simp only [List.lookup_cons, hx]
      by_cases hc : (k₀ == NameKind.free && sc.kind == .function && sc.names.lookup n == some .cell) = true
      · rw [if_pos hc] at h'
        simp only [List.lookup_cons, hx] at h'
        exact ih h'
      · rw [if_neg hc] at h'
        simp only [List.lookup_cons, hx] at h'
        exact ih h'
structure BlkOk (N : List Str) (sc scope : Scope) (own : List (Str × Nat)) : Prop where
  kind : scope.kind = .function
  uniq : ∀ y ∈ scope.names, scope.names.lookup y.1 = some y.2
  ix : ∀ p ∈ own, N[p.2]? = some p.1
  free : ∀ y ∈ scope.names, y.2 = .free → sc.names.lookup y.1 = some .cell ∨ sc.names.lookup y.1 = some .free
  own : ∀ y ∈ scope.names, y.2 = .local ∨ y.2 = .cell → y.1 ∈ own.map (·.1) ∨ y.1 ∉ N
def wipe (σ : St) : List Nat → St
  | [] => σ
  | v :: vs => (wipe σ vs).set v none
theorem wipe_length (σ : St) : ∀ vs : List Nat, (wipe σ vs).length = σ.length
  | [] => rfl
  | v :: vs => by unfold wipe; rw [List.length_set, wipe_length σ vs]
theorem wipe_some {σ : St} {i : Nat} {x : V} : ∀ {vs : List Nat}, (wipe σ vs)[i]? = some (some x) → σ[i]? = some (some x) ∧ i ∉ vs
  | [], h => ⟨h, by simp⟩
  | v :: vs, h => by
    unfold wipe at h
    by_cases hi : v = i
    · subst hi
      by_cases hv : v < (wipe σ vs).length
      · rw [List.getElem?_set_self hv] at h; cases h
      · rw [List.getElem?_eq_none (by simpa using hv)] at h; cases h
    · rw [List.getElem?_set_ne hi] at h
      obtain ⟨h1, h2⟩ := wipe_some h
      exact ⟨h1, by simp only [List.mem_cons, not_or]; exact ⟨fun e => hi e.symm, h2⟩⟩
abbrev Cx.blk (X : Cx) (s : Shared) (H : Hp) (scope : Scope) (cenv : Env) (fp : List Addr) : Cx := { X with s_0 := s, H_0 := H, env := cenv, outer := X.stack, ex := fp, fn := fun x => scope.names.lookup x == some .cell, pn := [], xe := fun _ _ => False }
section
variable {X : Cx} {pins : List (Addr × Obj)} {σ : St} {H : Hp} {s : Shared}
theorem block_start {scope : Scope} {own : List (Str × Nat)} {fp : List Addr} (I : Inv X pins σ H s) (ok : BlkOk X.N X.env.scope scope own) (hN : X.N.Nodup) (hfp : ∀ b ∈ fp, FpOk X pins H b ∧ b < s.heap.objs.size) :
    Inv (X.blk s H scope (compEnvC scope (cellsFrom (s.heap.objs.size + 1) scope.names (cloFrom X.env.cells scope.names [])) s.heap.objs.size X.env) fp) [] (wipe σ (own.map (·.2))) H { s with heap := pushCells (s.heap.push { cls := .type "dict", data := .dict #[] }) scope.names } := by
  have hfree : ∀ y ∈ scope.names, y.2 = .free → ∃ c, X.env.cells.lookup y.1 = some c := fun y hy e => by
    rcases ok.free y hy e with k | k
    · exact I.ok.has _ (.inl k)
    · exact I.ok.has _ (.inr k)
  generalize hcenv : compEnvC scope (cellsFrom (s.heap.objs.size + 1) scope.names (cloFrom X.env.cells scope.names [])) s.heap.objs.size X.env = cenv
  have kp : ∀ b o, s.heap.get? b = some o → (pushCells (s.heap.push { cls := .type "dict", data := .dict #[] }) scope.names).get? b = some o := fun b o e => pushCells_keeps _ _ _ _ (Heap.get?_push_of_some _ e)
  have hL : cenv.locals = s.heap.objs.size := by rw [← hcenv]; rfl
  have hcl : cenv.cells = cellsFrom (s.heap.objs.size + 1) scope.names (cloFrom X.env.cells scope.names []) := by rw [← hcenv]; rfl
  have hsc : cenv.scope = relS scope X.env.scope := by rw [← hcenv]; rfl
  rw [← Heap.size_push s.heap { cls := .type "dict", data := .dict #[] }] at hcl
  have cm : ∀ {y c}, (y, c) ∈ cloFrom X.env.cells scope.names [] → X.env.cells.lookup y = some c ∧ c < s.heap.objs.size := fun {y c} hm => by
    rcases cloFrom_mem hm with hm | ⟨h1, rfl⟩
    · cases hm
    · obtain ⟨c, hc⟩ := hfree _ h1 rfl
      rw [hc]
      obtain ⟨w, z⟩ := I.cell _ _ hc
      exact ⟨rfl, z.lt⟩
  have mem : ∀ {y c}, cenv.cells.lookup y = some c → (X.env.cells.lookup y = some c ∧ c < s.heap.objs.size) ∨ (s.heap.objs.size + 1 ≤ c ∧ CellAt (pushCells (s.heap.push { cls := .type "dict", data := .dict #[] }) scope.names) c none) := fun {y c} e => by
    rw [hcl] at e
    rcases cells_mem (PySem.mem_of_lookup e) with hm | ⟨_, h2, h3⟩
    · exact .inl (cm hm)
    · rw [Heap.size_push] at h2; exact .inr ⟨h2, h3⟩
  have look : ∀ {y}, scope.names.lookup y = some .free → ∃ c, cenv.cells.lookup y = some c ∧ X.env.cells.lookup y = some c := fun {y} hl => by
    have hy : (y, NameKind.free) ∈ scope.names := PySem.mem_of_lookup hl
    obtain ⟨c', e'⟩ := mem_lookup (cells_acc (names := scope.names) (n := (s.heap.push { cls := .type "dict", data := .dict #[] }).objs.size) (cloFrom_has (cells := X.env.cells) (acc := []) hy))
    rw [← hcl] at e'
    refine ⟨c', e', ?_⟩
    rw [hcl] at e'
    rcases cells_mem (PySem.mem_of_lookup e') with hm | ⟨h1, _, _⟩
    · exact (cm hm).1
    · have := ok.uniq _ h1
      rw [hl] at this; cases this
  have okB : (X.blk s H scope cenv fp).Ok := by
    refine ⟨I.ok.mod, by show cenv.scope.kind = _; rw [hsc]; exact ok.kind, by show cenv.globals = _; rw [← hcenv]; exact I.ok.glob, by show cenv.builtins = _; rw [← hcenv]; exact I.ok.blt, by show s.heap.objs.size ≤ cenv.locals; rw [hL]; exact Nat.le_refl _,
      fun y z c e1 e2 => ?_, fun y hy => ?_, fun y c z e => ?_, I.ok.hd, I.ok.frames, .inl rfl, fun b hb => ⟨?_, fun y c e z => ?_⟩, I.bs, Nat.le_trans I.ok.bsz I.sz, fun b o e hb => ?_, fun b hb z => ?_, I.stack, I.stkFree⟩
    · have e1 : cenv.cells.lookup y = some c := e1
      have e2 : cenv.cells.lookup z = some c := e2
      rw [hcl] at e1 e2
      refine cells_inj (fun p hp => ?_) (fun y z c a b => I.ok.inj y z c (cm a).1 (cm b).1) (PySem.mem_of_lookup e1) (PySem.mem_of_lookup e2)
      rw [Heap.size_push]
      exact Nat.lt_succ_of_lt (cm (y := p.1) (c := p.2) hp).2
    · show ∃ c, cenv.cells.lookup y = some c
      have key : ∀ k, cenv.kindOf y = some k → (k = .cell ∨ k = .free) → ∃ c, cenv.cells.lookup y = some c := fun k hk hk' => by
        unfold Env.kindOf at hk
        rw [hsc] at hk
        obtain ⟨k', e, r⟩ := lookup_relS hk
        have : k' = .cell ∨ k' = .free := by
          rcases r with rfl | ⟨rfl, _⟩
          · exact hk'
          · exact .inr rfl
        rcases this with rfl | rfl
        · obtain ⟨c, hm⟩ := cells_has (n := (s.heap.push { cls := .type "dict", data := .dict #[] }).objs.size) (acc := cloFrom X.env.cells scope.names []) (PySem.mem_of_lookup e)
          obtain ⟨c', e'⟩ := mem_lookup hm
          exact ⟨c', by rw [hcl]; exact e'⟩
        · obtain ⟨c, h1, _⟩ := look e
          exact ⟨c, h1⟩
      rcases hy with hy | hy
      · exact key _ hy (.inl rfl)
      · exact key _ hy (.inr rfl)
    · have z : (scope.names.lookup y == some NameKind.cell) = true := z
      have z : scope.names.lookup y = some .cell := by simpa using z
      have e : cenv.cells.lookup y = some c := e
      rw [hcl] at e
      rcases cells_mem (PySem.mem_of_lookup e) with hm | ⟨_, h2, _⟩
      · rcases cloFrom_mem hm with hm | ⟨h1, _⟩
        · cases hm
        · have q := ok.uniq _ h1
          rw [z] at q; cases q
      · rw [Heap.size_push] at h2
        exact Nat.le_of_succ_le h2
    · show b ≠ cenv.locals
      rw [hL]; exact Nat.ne_of_lt (hfp b hb).2
    · have e : cenv.cells.lookup y = some c := e
      rcases mem e with ⟨h1, _⟩ | ⟨h1, _⟩
      · exact (hfp b hb).1.2.2.2.2.1 y c h1 z
      · have h2 : s.heap.objs.size + 1 ≤ b := by rw [← z]; exact h1
        exact absurd (Nat.lt_of_lt_of_le (hfp b hb).2 (Nat.le_of_succ_le h2)) (Nat.lt_irrefl _)
    · rcases (hfp b hb).1.2.2.2.1 with z | z
      · exact I.ok.noex b o e z
      · exact absurd (Nat.lt_of_lt_of_le (Heap.lt_size e) (Nat.le_trans I.ok.bsz z)) (Nat.lt_irrefl _)
    · rcases List.mem_cons.mp (I.stkSub b z) with z | z
      · exact (hfp b hb).1.2.1 z
      · exact (hfp b hb).1.2.2.1 z
  refine ⟨okB, rfl, I.bare, Un.kept kp, ⟨fun _ => none, ?_, fun i y av e1 e2 e3 => ?_⟩, fun y c e => ?_, ?_, fun y c e => ?_, fun p hp => ?_, I.hok.kept kp, by rw [wipe_length]; exact I.len⟩
  · show Heap.Ns _ cenv.locals _
    rw [hL]
    exact Heap.Ns.keeps (Heap.Ns.new ..) fun b o e => pushCells_keeps _ _ _ _ e
  · obtain ⟨e2, hne⟩ := wipe_some e2
    have hfr : scope.names.lookup y = some .free ∧ (cenv.kindOf y = some .cell ∨ cenv.kindOf y = some .free) := by
      have key : ∀ k, cenv.scope.names.lookup y = some k → k = .local ∨ k = .cell ∨ k = .free → scope.names.lookup y = some .free ∧ (cenv.kindOf y = some .cell ∨ cenv.kindOf y = some .free) := fun k hk hk' => by
        have hk0 := hk
        rw [hsc] at hk
        obtain ⟨k', e, r⟩ := lookup_relS hk
        have no : ¬ (k' = .local ∨ k' = .cell) := fun hh => by
          rcases ok.own _ (PySem.mem_of_lookup e) hh with e' | e'
          · obtain ⟨p, hp, hpy⟩ := List.mem_map.mp e'
            have e3 := ok.ix p hp
            have : p.1 = y := hpy
            rw [this] at e3
            exact hne (List.mem_map.mpr ⟨p, hp, nodup_ix hN e3 e1⟩)
          · exact e' (List.mem_of_getElem? e1)
        rcases r with rfl | ⟨rfl, rfl⟩
        · rcases hk' with rfl | rfl | rfl
          · exact absurd (.inl rfl) no
          · exact absurd (.inr rfl) no
          · exact ⟨e, .inr hk0⟩
        · exact ⟨e, .inl hk0⟩
      have e3 : Vis cenv.scope y := e3
      rcases e3 with e3 | e3 | e3
      · exact key _ e3 (.inl rfl)
      · exact key _ e3 (.inr (.inl rfl))
      · exact key _ e3 (.inr (.inr rfl))
    obtain ⟨m, hn, hl⟩ := I.loc
    have hvis : Vis X.env.scope y := (ok.free _ (PySem.mem_of_lookup hfr.1) rfl).elim (fun k => .inr (.inl k)) (fun k => .inr (.inr k))
    obtain ⟨w, r, q⟩ := hl i y av e1 e2 hvis
    refine ⟨w, r, .inr ⟨hfr.2, ?_⟩⟩
    obtain ⟨c, h1, h2⟩ := look hfr.1
    rcases q with ⟨k, _⟩ | ⟨_, c', e', z⟩
    · have k : X.env.scope.names.lookup y = some .local := k
      rcases ok.free _ (PySem.mem_of_lookup hfr.1) rfl with k' | k' <;> rw [show X.env.scope.names.lookup y = _ from k'] at k <;> cases k
    · rw [h2] at e'; cases e'
      exact ⟨c, h1, z.keeps kp⟩
  · have e : cenv.cells.lookup y = some c := e
    rcases mem e with ⟨h1, _⟩ | ⟨_, z⟩
    · obtain ⟨w, z⟩ := I.cell y c h1
      exact ⟨w, z.keeps kp⟩
    · exact ⟨_, z⟩
  · show H cenv.locals = none
    rw [hL]; exact I.hok.fresh (Nat.le_refl _)
  · have e : cenv.cells.lookup y = some c := e
    rcases mem e with ⟨h1, _⟩ | ⟨h1, _⟩
    · exact I.freeC y c h1
    · exact I.hok.fresh (Nat.le_of_succ_le h1)
  · exact absurd (show p ∈ ([] : List (Addr × Obj)) ++ [] from hp) (by simp)
theorem app_ok {E : Value → Shared → Prop} {D : Addr} {xs : List V} {y : V} {v : Value} {Q : Value → Shared → Prop} (I : Inv X pins σ H s) (hD : H D = some (.lst xs)) (hz : xs.length < sizeLine) (r : RelV y v)
    (h : ∀ s', Inv X pins σ (upd H D (.lst (xs ++ [y]))) s' → Q .none s') : wpAny (model X.prog X.w) X.A (call (.builtin "list.append") [.ref D, v]) Q E s := by
  obtain ⟨hz', its, n, ri, e⟩ := I.hok D _ hD
  have hl := ri.length
  refine append_at (hsz := by rw [List.size_toArray]; omega) e fun h' sb ho' => ?_
  refine h { s with heap := h' } (I.write (t' := s.toks) (by rw [hD]; trivial) (.inl rfl) (fun b u hb q => (sb.2 b hb).trans q) ⟨_, ho'⟩ ⟨by rw [List.length_append]; exact hz, its ++ [v], n + 1, ri.append (.cons r .nil), ?_⟩)
  rw [ho']
  simp
def PTs (X : Cx) (ifs : List Expr) (t : TT) : Prop :=
  ∀ (pins : List (Addr × Obj)) (s : Shared) (σ : St) (H : Hp) (Q : Bool → Hp → Prop), Inv X pins σ H s → t σ H Q →
    wpAny (model X.prog X.w) X.A (forIn ifs true fun c r => if r = true then do let ok ← isTrue c X.env (eval c X.env); pure (ForInStep.yield ok) else pure (ForInStep.yield r)) (TP X pins σ Q) X.xe s
def tYes : TT := fun _ H Q => Q true H
theorem pts_nil : PTs X [] tYes := fun _ _ _ H _ I h => wpAny_tests_nil ⟨H, I, h⟩
theorem pts_one {c : Expr} {t : TT} (h : PT X c t) : PTs X [c] t := fun pins s σ H Q I hw => wpAny_tests_one (h pins s σ H Q I hw)
end
theorem thnF {α : Type} {t : Sem α} {Q Q' : α → Shared → Prop} {M : Model} {A : Around} {E : Value → Shared → Prop} {s : Shared} (h : wpAny M A t Q (fun _ _ => False) s) (hQ : ∀ a s, Q a s → Q' a s) : wpAny M A t Q' E s := wpAny_mono h hQ fun _ _ z => False.elim z
theorem compLoop_any {prog : Program} {w : World} {A : Around} {R : Result → Shared → Prop} {s : Shared} {elt target iter : Expr} {ifs : List Expr} {scope : Scope} {pos : Pos} {it acc : Value} {env : Env} (I : Nat → Shared → Prop)
    (turn : ∀ n s, I n s → wpAny (model prog w) A (pyNext it) (fun r s₁ => match r with
      | none => R (.ok .next) s₁
      | some v => wpAny (model prog w) A (letOwnedTupleGo target it v) (fun _ s₁' => wpAny (model prog w) A (assign target env v) (fun _ s₂ =>
          wpAny (model prog w) A (forIn ifs true fun c r => if r = true then do let ok ← isTrue c env (eval c env); pure (ForInStep.yield ok) else pure (ForInStep.yield r)) (fun ok s₃ =>
            if ok = true then wpAny (model prog w) A (eval elt env) (fun x s₄ =>
              wpAny (model prog w) A (call (.builtin "list.append") [acc, x]) (fun _ s₅ => ∃ m, m < n ∧ I m s₅) (notedBy (model prog w) A env fun e s' => R (.error e) s') s₄) (notedBy (model prog w) A env fun e s' => R (.error e) s') s₃
            else ∃ m, m < n ∧ I m s₃) (notedBy (model prog w) A env fun e s' => R (.error e) s') s₂) (notedBy (model prog w) A env fun e s' => R (.error e) s') s₁') (notedBy (model prog w) A env fun e s' => R (.error e) s') s₁) (notedBy (model prog w) A env fun e s' => R (.error e) s') s)
    (n : Nat) (h : I n s) :
    codeAny (model prog w) A (.compLoop (.ListComp elt [⟨target, iter, ifs, 0⟩] scope pos) 0 it acc env) R s := by
  refine codeAny_loop rfl I (fun n s hI => ?_) n h
  show wpAny _ A ((compTurn (.ListComp elt [⟨target, iter, ifs, 0⟩] scope pos) 0 it acc env).onRaise (fun x => do noteFrame x env; theTreesLotGoes x)) _ _ s
  refine wpAny_noted ?_
  rw [compTurn_list]
  refine wpAny_bind (wpAny_standAt (wpAny_bind (wpAny_mono (turn n s hI) (fun r s₁ h₁ => ?_) fun _ _ h' => h')))
  cases r with
  | none => exact wpAny_pure h₁
  | some v =>
    refine wpAny_bind (wpAny_mono h₁ (fun _ s₁' h₁' => ?_) fun _ _ h' => h')
    refine wpAny_bind (wpAny_mono h₁' (fun _ s₂ h₂ => wpAny_bind (wpAny_mono h₂ (fun ok s₃ h₃ => ?_) fun _ _ h' => h')) fun _ _ h' => h')
    cases ok with
    | false => exact wpAny_pure ⟨rfl, h₃⟩
    | true =>
      exact wpAny_bind (wpAny_bind (wpAny_mono h₃ (fun x s₄ h₄ => wpAny_bind (wpAny_mono h₄ (fun _ s₅ h₅ => wpAny_pure (wpAny_pure ⟨rfl, h₅⟩)) fun _ _ h' => h')) fun _ _ h' => h'))
section
variable {X : Cx}
def tLc (wi : TI) (g : TG) (tt : TT) (te : TE) (vs : List Nat) : TE := fun σ H Q => wi σ H fun J H1 => ∀ D, H1 D = none → ∃ W : Nat → Nat → Hp → Prop, (∃ m, W 0 m (upd H1 D (.lst []))) ∧ ∀ i m H, W i m H →
  (J.stop i H ∧ Q (.ref D) H) ∨ (J.go i H ∧ ∃ Nx : Hp → Prop, (∀ H', Nx H' → ∃ m', m' < m ∧ W (i + 1) m' H') ∧ ∀ x H', J.yld i H x H' → g x (wipe σ vs) H' fun σ2 H2 => wipe σ2 vs = wipe σ vs ∧ tt σ2 H2 fun b H3 =>
    if b = true then te σ2 H3 fun y H4 => ∃ acc, H4 D = some (.lst acc) ∧ acc.length < sizeLine ∧ Nx (upd H4 D (.lst (acc ++ [y]))) else Nx H3)
theorem lc_core {pins : List (Addr × Obj)} {s : Shared} {σ : St} {H : Hp} {Q : VK} {elt tg iter : Expr} {ifs : List Expr} {scope : Scope} {own : List (Str × Nat)} {pos pos' : Pos} {wi : TI} {g : TG} {tt : TT} {te : TE} {use : Option (Value → Sem Unit)} {Qf : Value → Shared → Prop}
    (hc : X.calm = true) (hN : X.N.Nodup) (I : Inv X pins σ H s) (hi : PI X tg iter wi) (ok : BlkOk X.N X.env.scope scope own)
    (hg : ∀ (s : Shared) (H : Hp) (C : Addr) (cl : List (Str × Addr)) (fp : List Addr), PG (X.blk s H scope (compEnvC scope cl C X.env) fp) tg g) (ht : ∀ (s : Shared) (H : Hp) (C : Addr) (cl : List (Str × Addr)) (fp : List Addr), PTs (X.blk s H scope (compEnvC scope cl C X.env) fp) ifs tt)
    (he : ∀ (s : Shared) (H : Hp) (C : Addr) (cl : List (Str × Addr)) (fp : List Addr), PE (X.blk s H scope (compEnvC scope cl C X.env) fp) elt te) (hs : ∀ x, foldedSetIterable iter X.env x = pure x)
    (h : tLc wi g tt te (own.map (·.2)) σ H Q)
    (hRR : ∀ D C s' m H', Inv X pins σ H' s' → Q (.ref D) H' → s'.heap.Ns C m → FpOk X pins H' C → compPost (model X.prog X.w) X.A X.xe use Qf (.ref D) C (.ok .next) s') :
    wpAny (model X.prog X.w) X.A (comprehension (.ListComp elt [⟨tg, iter, ifs, 0⟩] scope pos) scope X.env pos' (newList []) false (eval iter X.env) use) Qf X.xe s := by
  have hfree : ∀ y ∈ scope.names, y.2 = .free → ∃ c, X.env.cells.lookup y.1 = some c := fun y hy e => by
    rcases ok.free y hy e with k | k
    · exact I.ok.has _ (.inl k)
    · exact I.ok.has _ (.inr k)
  refine wpAny_comprehension_free (use := use) rfl hs (closure_ok hfree) ok.kind (fun y hy e => by rw [ok.uniq y hy, e])
    (thn (hi pins s σ H _ I h) fun xv s1 hx => thn hx fun itv s2 h2 => ?_)
  obtain ⟨it, fp, tn, J, H2, e, I2, T, st2, f2, q⟩ := h2
  subst e
  refine wpAny_newObj_type (newEnv_comp ?_) (by show 0 ≤ sizeLine; decide)
  generalize hD : s2.heap.objs.size = D
  have hDn : H2 D = none := I2.hok.fresh (Nat.le_of_eq hD)
  obtain ⟨W, ⟨m0, w0⟩, turn⟩ := q D hDn
  generalize hs3 : ({ s2 with heap := s2.heap.push { cls := .type "list", data := .seq ([] : List Value).toArray } } : Shared) = s3
  have I3 : Inv X pins σ (upd H2 D (.lst [])) s3 := by
    rw [← hs3]
    refine I2.laid (t' := s2.toks) (fun b o e => Heap.get?_push_of_some _ e) (Nat.le_of_eq hD) ⟨Nat.zero_le _, [], 0, .nil, ?_⟩
    rw [← hD]
    exact Heap.get?_push_size _ rfl
  have h3 : s3.heap = s2.heap.push { cls := .type "list", data := .seq ([] : List Value).toArray } := by rw [← hs3]
  have sz : ∀ b ∈ fp, b < s2.heap.objs.size := fun b hb => by
    obtain ⟨o, e, _⟩ := T.obj _ _ st2 b hb
    exact Heap.lt_size e
  have f3 : ∀ b ∈ fp, FpOk X pins (upd H2 D (.lst [])) b ∧ b < s3.heap.objs.size := fun b hb => by
    have hlt := sz b hb
    refine ⟨⟨?_, (f2 b hb).2⟩, by rw [h3, Heap.size_push]; exact Nat.lt_succ_of_lt hlt⟩
    rw [upd_ne (by rw [← hD]; exact Nat.ne_of_lt hlt)]
    exact (f2 b hb).1
  have st3 : tn 0 s3.heap := T.keep _ _ _ st2 fun b _ o e => by rw [h3]; exact Heap.get?_push_of_some _ e
  have I4 := block_start I3 ok hN f3
  have pg := hg s3 (upd H2 D (.lst [])) s3.heap.objs.size (cellsFrom (s3.heap.objs.size + 1) scope.names (cloFrom X.env.cells scope.names [])) fp
  have pt := ht s3 (upd H2 D (.lst [])) s3.heap.objs.size (cellsFrom (s3.heap.objs.size + 1) scope.names (cloFrom X.env.cells scope.names [])) fp
  have pe := he s3 (upd H2 D (.lst [])) s3.heap.objs.size (cellsFrom (s3.heap.objs.size + 1) scope.names (cloFrom X.env.cells scope.names [])) fp
  show codeAny _ _ (.compStart (.ListComp elt [⟨tg, iter, ifs, 0⟩] scope pos) 0 (.ref it) (.ref D) (compEnvC scope (cellsFrom (s3.heap.objs.size + 1) scope.names (cloFrom X.env.cells scope.names [])) s3.heap.objs.size X.env)) (compPost (model X.prog X.w) X.A X.xe use Qf (.ref D) s3.heap.objs.size) { s3 with heap := pushCells (s3.heap.push { cls := .type "dict", data := .dict #[] }) scope.names }
  have nfp : ∀ b ∈ fp, (upd H2 D (.lst [])) b = none := fun b hb => (f3 b hb).1.1
  generalize hce : compEnvC scope (cellsFrom (s3.heap.objs.size + 1) scope.names (cloFrom X.env.cells scope.names [])) s3.heap.objs.size X.env = ce at I4 pg pt pe ⊢
  have cL : ce.locals = s3.heap.objs.size := by subst hce; rfl
  generalize hH3 : upd H2 D (.lst []) = H3 at I3 I4 pg pt pe w0 nfp f3
  generalize hs4 : ({ s3 with heap := pushCells (s3.heap.push { cls := .type "dict", data := .dict #[] }) scope.names } : Shared) = s4 at I4 ⊢
  have st4 : tn 0 s4.heap := T.keep _ _ _ st3 fun b _ o e => by rw [← hs4]; exact pushCells_keeps _ _ _ _ (Heap.get?_push_of_some _ e)
  have stat : ∀ {σ' : St} {H' : Hp} {s' : Shared}, Inv (X.blk s3 H3 scope ce fp) [] σ' H' s' → (∀ b ∈ fp, H' b = none) → ∀ b ∈ fp, FpOk (X.blk s3 H3 scope ce fp) [] H' b := fun {σ' H' s'} I' hn b hb =>
    ⟨hn b hb, (I'.ok.exf b hb).1, I'.ok.exfs b hb, .inl hb, fun x c e => (I'.ok.exf b hb).2 x c e, fun p hp => absurd (show p ∈ ([] : List (Addr × Obj)) ++ [] from hp) (by simp)⟩
  have loop : codeAny (model X.prog X.w) X.A (.compLoop (.ListComp elt [⟨tg, iter, ifs, 0⟩] scope pos) 0 (.ref it) (.ref D) ce) (compPost (model X.prog X.w) X.A X.xe use Qf (.ref D) s3.heap.objs.size) s4 := by
    refine compLoop_any (fun n s' => ∃ i H', Inv (X.blk s3 H3 scope ce fp) [] (wipe σ (own.map (·.2))) H' s' ∧ tn i s'.heap ∧ (∀ b ∈ fp, H' b = none) ∧ W i n H') ?_ m0 ⟨0, H3, I4, st4, nfp, w0⟩
    rintro n s5 ⟨i, H5, I5, st5, n5, w5⟩
    rcases turn i n H5 w5 with ⟨stop, qq⟩ | ⟨go, Nx, hNx, step⟩
    · have td := T.done (X.blk s3 H3 scope ce fp) rfl rfl rfl hc i [] s5 _ H5 (fun _ _ => False) I5 (stat I5 n5) st5 stop
      refine thnF td fun r s6 ⟨hr, I6⟩ => ?_
      subst hr
      have I7 : Inv X pins σ H5 s6 := I3.call' (ch := fp) I6.os I6.base I6.hok I6.bare fun b hb => ⟨(f3 b hb).1.2.2.2.1, (f3 b hb).1.2.1, (f3 b hb).1.2.2.2.2.1, (f3 b hb).1.2.2.2.2.2⟩
      have nC : H5 s3.heap.objs.size = none := by
        have z : H5 ce.locals = none := I6.free
        rw [cL] at z
        exact z
      obtain ⟨m, hn, _⟩ := I6.loc
      have hn : s6.heap.Ns ce.locals m := hn
      rw [cL] at hn
      exact hRR D s3.heap.objs.size s6 m H5 I7 qq hn (I3.fpOk (Nat.le_refl _) nC)
    · have ti := T.item (X.blk s3 H3 scope ce fp) rfl rfl rfl hc i [] s5 _ H5 (fun _ _ => False) I5 (stat I5 n5) st5 go
      refine thnF ti fun r s6 ⟨u, hr, h6⟩ => ?_
      subst hr
      refine thnF h6 fun _ s7 ⟨x, H7, I7, r7, y7, st7, n7⟩ => ?_
      have I7' := I7.pinned (stat I7 n7) (T.obj _ _ st7)
      refine thnF (pg _ s7 _ H7 x u _ I7' r7 (step x H7 y7)) fun _ s8 ⟨σ8, H8, I8, hw8, q8⟩ => ?_
      refine thnF (pt _ s8 σ8 H8 _ I8 q8) fun b s9 ⟨H9, I9, q9⟩ => ?_
      have fin : ∀ {s' : Shared} {H' : Hp}, Inv (X.blk s3 H3 scope ce fp) ([] ++ pinsAt fp s7.heap) σ8 H' s' → Nx H' → ∃ m, m < n ∧ ∃ i H', Inv (X.blk s3 H3 scope ce fp) [] (wipe σ (own.map (·.2))) H' s' ∧ tn i s'.heap ∧ (∀ b ∈ fp, H' b = none) ∧ W i m H' := fun {s' H'} I' nx => by
        obtain ⟨m', hm, w'⟩ := hNx H' nx
        have pin' : ∀ b ∈ fp, ∀ o, s7.heap.get? b = some o → s'.heap.get? b = some o ∧ H' b = none := fun b hb o e =>
          let z := I'.pin (b, o) (List.mem_append_right _ (List.mem_append_right _ (mem_pinsAt hb e)))
          ⟨z.1, z.2.1⟩
        have hl : (wipe σ (own.map (·.2))).length = σ8.length := by rw [← hw8, wipe_length]
        refine ⟨m', hm, i + 1, H', (I'.unpinned (pins := [])).weak hl (fun j v e => ?_), T.keep _ _ _ st7 fun b hb o e => (pin' b hb o e).1, fun b hb => ?_, w'⟩
        · rw [← hw8] at e
          exact (wipe_some e).1
        · obtain ⟨o, e, _⟩ := T.obj _ _ st7 b hb
          exact (pin' b hb o e).2
      cases b with
      | false =>
        simp only [Bool.false_eq_true, if_false] at q9 ⊢
        exact fin I9 q9
      | true =>
        simp only [if_true] at q9 ⊢
        refine thnF (pe _ s9 σ8 H9 _ I9 q9) fun z s10 ⟨yv, H10, I10, r10, acc, hD10, hz10, nx⟩ => ?_
        exact app_ok (X := X.blk s3 H3 scope ce fp) I10 hD10 hz10 r10 fun s11 I11 => fin I11 nx
  exact codeAny_compStart_list loop (T.self X.A 0 _ _ _ st4 loop)
theorem pe_lc {elt tg iter : Expr} {ifs : List Expr} {scope : Scope} {own : List (Str × Nat)} {pos : Pos} {wi : TI} {g : TG} {tt : TT} {te : TE} (hc : X.calm = true) (hN : X.N.Nodup) (hi : PI X tg iter wi) (ok : BlkOk X.N X.env.scope scope own)
    (hg : ∀ (s : Shared) (H : Hp) (C : Addr) (cl : List (Str × Addr)) (fp : List Addr), PG (X.blk s H scope (compEnvC scope cl C X.env) fp) tg g) (ht : ∀ (s : Shared) (H : Hp) (C : Addr) (cl : List (Str × Addr)) (fp : List Addr), PTs (X.blk s H scope (compEnvC scope cl C X.env) fp) ifs tt)
    (he : ∀ (s : Shared) (H : Hp) (C : Addr) (cl : List (Str × Addr)) (fp : List Addr), PE (X.blk s H scope (compEnvC scope cl C X.env) fp) elt te) (hs : ∀ x, foldedSetIterable iter X.env x = pure x := by intro _; rfl) :
    PE X (.ListComp elt [⟨tg, iter, ifs, 0⟩] scope pos) (tLc wi g tt te (own.map (·.2))) := by
  intro pins s σ H Q I h
  rw [eval_ListComp]
  refine lc_core hc hN I hi ok hg ht he hs h fun D C s' m H' I' q hn f => ⟨m, hn, fun h'' sb => ?_⟩
  obtain ⟨f0, f1, f2, f3, f4, f5⟩ := f
  exact ⟨.ref D, H', I'.turned (t' := s'.toks) (fun b o hb e => (sb.2 b hb).trans e) f0 f1 f3 f4 f5, rfl, q⟩
theorem ps_setLc {i : Nat} {y : Str} {py : Pos} {elt tg iter : Expr} {ifs : List Expr} {scope : Scope} {own : List (Str × Nat)} {pos spos : Pos} {wi : TI} {g : TG} {tt : TT} {te : TE} (hc : X.calm = true) (hN : X.N.Nodup) (hy : X.N[i]? = some y) (hyl : X.env.scope.names.lookup y = some .local)
    (hsw : swapsWith (.ListComp elt [⟨tg, iter, ifs, 0⟩] scope pos) (some (.Name y py)) spos.line X.env = pure true) (hi : PI X tg iter wi) (ok : BlkOk X.N X.env.scope scope own)
    (hg : ∀ (s : Shared) (H : Hp) (C : Addr) (cl : List (Str × Addr)) (fp : List Addr), PG (X.blk s H scope (compEnvC scope cl C X.env) fp) tg g) (ht : ∀ (s : Shared) (H : Hp) (C : Addr) (cl : List (Str × Addr)) (fp : List Addr), PTs (X.blk s H scope (compEnvC scope cl C X.env) fp) ifs tt)
    (he : ∀ (s : Shared) (H : Hp) (C : Addr) (cl : List (Str × Addr)) (fp : List Addr), PE (X.blk s H scope (compEnvC scope cl C X.env) fp) elt te) (hs : ∀ x, foldedSetIterable iter X.env x = pure x := by intro _; rfl) :
    PS X (.Assign [.Name y py] (.ListComp elt [⟨tg, iter, ifs, 0⟩] scope pos) spos) (tAsg (tLc wi g tt te (own.map (·.2))) (gName i)) := by
  intro pins s σ H D I h
  rw [exec_Assign_Name_used _ _ _ _ hsw]
  refine wpAny_bind (wpAny_standAt (wpAny_bind ?_))
  show wpAny _ X.A (do let _ ← comprehension (.ListComp elt [⟨tg, iter, ifs, 0⟩] scope pos) scope X.env (firstIterPos [⟨tg, iter, ifs, 0⟩] pos) (newList []) false (eval iter X.env) (some (assign (.Name y py) X.env))) _ _ s
  have h : tLc wi g tt te (own.map (·.2)) σ H (fun x H1 => gName i x σ H1 D.nx) := h
  refine wpAny_bind (thn (lc_core (Qf := fun _ s' => SP X pins D .next s') hc hN I hi ok hg ht he hs h fun L C s' m H' I' q hn f => ?_) fun _ s' hq => wpAny_pure (wpAny_pure hq))
  show wpAny _ _ (assign (.Name y py) X.env (.ref L)) _ _ _
  refine wpAny_assign_Name (store_ok2 (v := V.ref L) I' hN hy (.inl hyl) rfl (fun s2 I2 ⟨a, sb, ha⟩ => ?_) (.inr hyl))
  obtain ⟨f0, f1, f2, f3, f4, f5⟩ := f
  have haC : C ≠ a := by
    rcases ha with z | z
    · rw [z]; exact f1
    · exact fun e => f4 y a z e.symm
  refine ⟨m, hn.sameBut sb haC, fun h3 sb3 => ?_⟩
  exact ⟨_, H', I2.turned (t' := s2.toks) (fun b o hb e => (sb3.2 b hb).trans e) f0 f1 f3 f4 f5, q⟩
theorem sw_true {elt : Expr} {gs : List Comprehension} {scope : Scope} {pos py : Pos} {y : Str} {l : Nat} {env : Env} (hk : env.scope.kind = .function) (hy : env.scope.names.lookup y = some .local) (hl : (py.line == pos.line) = true)
    (ha : (scope.names.any fun (n, k) => n == y && (k == .local || k == .cell)) = false) : swapsWith (.ListComp elt gs scope pos) (some (.Name y py)) l env = pure true := by
  have ky : env.kindOf y = some .local := hy
  have hb : env.blockKind = .function := by unfold Env.blockKind; rw [hk]; rfl
  unfold swapsWith
  simp only [hb, ky, ha, Expr.pos, hl]
  rfl
end
theorem lc_range {lo : Int} {n : Nat} {g : TG} {tt : TT} {te : TE} {vs : List Nat} {σ : St} {H1 : Hp} {D : Addr} {Qd : Hp → Prop} (Pv : Nat → Hp → Prop) (h0 : Pv 0 (upd H1 D (.lst [])))
    (hs : ∀ i H, i < n → Pv i H → g (.int (lo + i)) (wipe σ vs) H fun σ2 H2 => wipe σ2 vs = wipe σ vs ∧ tt σ2 H2 fun b H3 =>
      if b = true then te σ2 H3 fun y H4 => ∃ acc, H4 D = some (.lst acc) ∧ acc.length < sizeLine ∧ Pv (i + 1) (upd H4 D (.lst (acc ++ [y]))) else Pv (i + 1) H3) (hd : ∀ H, Pv n H → Qd H) :
    ∃ W : Nat → Nat → Hp → Prop, (∃ m, W 0 m (upd H1 D (.lst []))) ∧ ∀ i m H, W i m H →
      ((Itr lo n).stop i H ∧ Qd H) ∨ ((Itr lo n).go i H ∧ ∃ Nx : Hp → Prop, (∀ H', Nx H' → ∃ m', m' < m ∧ W (i + 1) m' H') ∧ ∀ x H', (Itr lo n).yld i H x H' → g x (wipe σ vs) H' fun σ2 H2 => wipe σ2 vs = wipe σ vs ∧ tt σ2 H2 fun b H3 =>
        if b = true then te σ2 H3 fun y H4 => ∃ acc, H4 D = some (.lst acc) ∧ acc.length < sizeLine ∧ Nx (upd H4 D (.lst (acc ++ [y]))) else Nx H3) := by
  refine ⟨fun i m H => m = n - i ∧ i ≤ n ∧ Pv i H, ⟨n, by simp, Nat.zero_le _, h0⟩, ?_⟩
  rintro i m H ⟨rfl, hi, p⟩
  by_cases hlt : i < n
  · refine .inr ⟨hlt, Pv (i + 1), fun H' p' => ⟨n - (i + 1), by omega, rfl, hlt, p'⟩, fun x H' y => ?_⟩
    obtain ⟨e, y⟩ := y
    subst e y
    exact hs i _ hlt p
  · have e : i = n := by omega
    subst e
    exact .inl ⟨Nat.le_refl _, hd H p⟩
theorem lc_list {K : PySem.W.Frag} {a : Addr} {xs : List V} {g : TG} {tt : TT} {te : TE} {vs : List Nat} {σ : St} {H1 : Hp} {D : Addr} {Qd : Hp → Prop} (Pv : Nat → Hp → Prop) (h0 : Pv 0 (upd H1 D (.lst []))) (hl : ∀ i H, i ≤ xs.length → Pv i H → SqL K H a xs)
    (hs : ∀ i x H, xs[i]? = some x → Pv i H → g x (wipe σ vs) H fun σ2 H2 => wipe σ2 vs = wipe σ vs ∧ tt σ2 H2 fun b H3 =>
      if b = true then te σ2 H3 fun y H4 => ∃ acc, H4 D = some (.lst acc) ∧ acc.length < sizeLine ∧ Pv (i + 1) (upd H4 D (.lst (acc ++ [y]))) else Pv (i + 1) H3) (hd : ∀ H, Pv xs.length H → Qd H) :
    ∃ W : Nat → Nat → Hp → Prop, (∃ m, W 0 m (upd H1 D (.lst []))) ∧ ∀ i m H, W i m H →
      ((Itl K a).stop i H ∧ Qd H) ∨ ((Itl K a).go i H ∧ ∃ Nx : Hp → Prop, (∀ H', Nx H' → ∃ m', m' < m ∧ W (i + 1) m' H') ∧ ∀ x H', (Itl K a).yld i H x H' → g x (wipe σ vs) H' fun σ2 H2 => wipe σ2 vs = wipe σ vs ∧ tt σ2 H2 fun b H3 =>
        if b = true then te σ2 H3 fun y H4 => ∃ acc, H4 D = some (.lst acc) ∧ acc.length < sizeLine ∧ Nx (upd H4 D (.lst (acc ++ [y]))) else Nx H3) := by
  refine ⟨fun i m H => m = xs.length - i ∧ i ≤ xs.length ∧ Pv i H, ⟨xs.length, by simp, Nat.zero_le _, h0⟩, ?_⟩
  rintro i m H ⟨rfl, hi, p⟩
  have q := hl i H hi p
  by_cases hlt : i < xs.length
  · refine .inr ⟨⟨xs, xs[i], q, by simp [hlt]⟩, Pv (i + 1), fun H' p' => ⟨xs.length - (i + 1), by omega, rfl, hlt, p'⟩, fun x H' y => ?_⟩
    obtain ⟨e, y⟩ := y
    subst e
    exact hs i x _ (y xs q) p
  · have e : i = xs.length := by omega
    subst e
    exact .inl ⟨⟨xs, q, Nat.le_refl _⟩, hd H p⟩
def blkC (N : List Str) (sc scope : Scope) (own : List (Str × Nat)) : Bool :=
  (match scope.kind with | .function => true | _ => false) && (scope.names.all fun y => decide (scope.names.lookup y.1 = some y.2)) && (own.all fun p => decide (N[p.2]? = some p.1)) &&
    (scope.names.all fun y => match y.2 with
      | .free => (match sc.names.lookup y.1 with | some .cell => true | some .free => true | _ => false)
      | .local => decide (y.1 ∈ own.map (·.1)) || decide (y.1 ∉ N)
      | .cell => decide (y.1 ∈ own.map (·.1)) || decide (y.1 ∉ N)
      | _ => true)
theorem blkOk_by {N : List Str} {sc scope : Scope} {own : List (Str × Nat)} (h : blkC N sc scope own = true) : BlkOk N sc scope own := by
  unfold blkC at h
  simp only [Bool.and_eq_true, List.all_eq_true, decide_eq_true_eq] at h
  obtain ⟨⟨⟨h1, h2⟩, h3⟩, h4⟩ := h
  refine ⟨?_, h2, h3, fun y hy e => ?_, fun y hy e => ?_⟩
  · split at h1
    · assumption
    · cases h1
  · have q := h4 y hy
    simp only [e] at q
    split at q <;> first | exact .inl (by assumption) | exact .inr (by assumption) | cases q
  · have q := h4 y hy
    rcases e with e | e <;> (simp only [e, Bool.or_eq_true, decide_eq_true_eq] at q; exact q)
end L2
namespace L2
open PySem PySem.Spec PyProof.Rows
section
variable {prog : Program} {w : World} {A : Around} {R : Result → Shared → Prop} {s : Shared} {elt t0 i0 t1 i1 : Expr} {ifs0 ifs1 : List Expr} {scope : Scope} {pos : Pos} {it acc : Value} {env : Env}
end
section
variable {X : Cx}
end
end L2
namespace L2
open PySem PySem.Spec PyProof.Rows
section
variable {κ : Type} [DecidableEq κ]
end
section
variable {P : Program} {w : World} {H : Hp} {h : Heap} {a : Addr}
end
section
variable {X : Cx} {pins : List (Addr × Obj)} {σ : St} {H : Hp} {s : Shared} {a : Addr} {y v : V} {u r : Value} {o : Option V} {A : Around} {E : Value → Shared → Prop}
end
section
variable {X : Cx} {pins : List (Addr × Obj)} {σ : St} {H : Hp} {s : Shared} {a : Addr} {kvs : List (Key × V)} {k : Key} {u : Value} {A : Around} {E : Value → Shared → Prop}
end
section
variable {X : Cx} {o i e value : Expr} {pos pos' tpos : Pos} {td ty tv : TE}
end
section
variable {X : Cx} {pos : Pos}
end
section
variable {X : Cx} {pins : List (Addr × Obj)} {σ : St} {H : Hp} {s : Shared} {a : Addr} {y d : V} {u r : Value} {o : Option V} {A : Around} {E : Value → Shared → Prop}
end
section
variable {X : Cx} {o e f : Expr} {apos cpos : Pos} {td ty tx : TE}
end
section
variable {X : Cx} {pins : List (Addr × Obj)} {σ : St} {H : Hp} {s : Shared} {a : Addr} {kvs : List (Key × V)} {A : Around} {E : Value → Shared → Prop}
end
section
variable {X : Cx} {pins : List (Addr × Obj)} {σ : St} {H : Hp} {s : Shared} {a : Addr} {y : V} {u : Value} {A : Around} {E : Value → Shared → Prop}
end
end L2
namespace L2
open PySem PySem.Spec PyProof.Rows
section
variable {prog : Program} {w : World} {A : Around} {E : Value → Shared → Prop}
end
section
variable {X : Cx}
end
end L2
namespace L2
open PySem PySem.Spec PyProof.Rows
section
variable {X : Cx} {pins : List (Addr × Obj)} {σ : St} {H : Hp} {s : Shared} {h' : Heap}
theorem Inv.turnedL {t' : Nat} {ch : List Addr} (I : Inv X pins σ H s) (k : ∀ b o, b ∉ ch → s.heap.get? b = some o → h'.get? b = some o) (hf : ∀ b ∈ ch, FpOk X pins H b) : Inv X pins σ H { s with heap := h', toks := t' } := by
  have nit : ∀ b u, H b = some u → b ∉ ch := fun b u e z => by
    have q := (hf b z).1
    rw [q] at e; cases e
  refine I.step (g' := s.gens) (d' := s.drawn) (ch := ch) (fun b hb => ⟨(hf b hb).2.2.2.1, (hf b hb).2.1, (hf b hb).2.2.2.2.1, (hf b hb).2.2.2.2.2⟩) (fun b o _ _ hc e _ => k b o hc e) (fun b o _ _ hc e _ => ⟨o.slots, k b o hc e⟩)
    (fun _ _ _ _ n => n) (fun b o hc e => ⟨o, k b o hc e⟩) (fun _ _ e => e) (fun _ _ _ e => e) (fun b ps e => ⟨#[], by rw [e]; simp⟩) (fun m hm => ?_) (fun b u e => ?_) I.bare
  · obtain ⟨o, es, ep, ho, r⟩ := hm
    exact ⟨o, es, ep, k _ o (fun z => (hf _ z).2.1 rfl) ho, r⟩
  · refine (I.hok b u e).stay (fun c v hc q => k c v ?_ q) (fun _ q => q) fun _ _ q => q
    rcases hc with z | z
    · rw [z]; exact nit b u e
    · exact nit c _ z
theorem Inv.turnedNew {t' : Nat} {ch : List Addr} {T : Addr} {ob : HO} (I : Inv X pins σ H s) (k : ∀ b o, b ∉ ch → s.heap.get? b = some o → h'.get? b = some o) (hf : ∀ b ∈ ch, FpOk X pins H b) (hT : s.heap.objs.size ≤ T)
    (new : ObjOk X.prog X.w (upd H T ob) h' T ob) : Inv X pins σ (upd H T ob) { s with heap := h', toks := t' } := by
  have hn : H T = none := I.hok.fresh hT
  have nit : ∀ b u, H b = some u → b ∉ ch := fun b u e z => by
    have q := (hf b z).1
    rw [q] at e; cases e
  refine I.step (g' := s.gens) (d' := s.drawn) (ch := ch) (fun b hb => ⟨(hf b hb).2.2.2.1, (hf b hb).2.1, (hf b hb).2.2.2.2.1, (hf b hb).2.2.2.2.2⟩) (fun b o _ _ hc e _ => k b o hc e) (fun b o _ _ hc e _ => ⟨o.slots, k b o hc e⟩)
    (fun b o _ e n => ?_) (fun b o hc e => ⟨o, k b o hc e⟩) (fun b xs e => ?_) (fun b o u e => ?_) (fun b ps e => ⟨#[], ?_⟩) (fun m hm => ?_) (fun b u e => ?_) I.bare
  · rw [upd_ne (Nat.ne_of_lt (Nat.lt_of_lt_of_le (Heap.lt_size e) hT))]; exact n
  · rw [upd_ne (ne_of_none e hn)]; exact e
  · rw [upd_ne (ne_of_none e hn)]; exact e
  · rw [upd_ne (ne_of_none e hn), e]; simp
  · obtain ⟨o, es, ep, ho, r⟩ := hm
    exact ⟨o, es, ep, k _ o (fun z => (hf _ z).2.1 rfl) ho, r⟩
  · by_cases hb : b = T
    · subst hb
      rw [upd_same] at e
      cases e
      exact new
    · rw [upd_ne hb] at e
      refine (I.hok b u e).stay (fun c v hc q => k c v ?_ q) (fun c q => by rw [upd_ne (ne_of_none q hn)]; exact q) fun c xs q => by rw [upd_ne (ne_of_none q hn)]; exact q
      rcases hc with z | z
      · rw [z]; exact nit b u e
      · exact nit c _ z
end
section
variable {X : Cx}
theorem pi_one {tg : Expr} {pins : List (Addr × Obj)} {σ : St} {H : Hp} {s : Shared} {R : It → Hp → Prop} {J : It} {tn : Nat → Heap → Prop} {tk : Nat} (I : Inv X pins σ H s) (o : Obj)
    (T : Turn X.prog X.w X.K tg J [s.heap.objs.size] s.heap.objs.size tn) (st : tn 0 (s.heap.push o)) (q : R J H) : PIE X pins σ tg R (.ref s.heap.objs.size) { s with heap := s.heap.push o, toks := tk } := by
  refine ⟨s.heap.objs.size, [s.heap.objs.size], tn, J, H, rfl, I.kept fun b ob e => Heap.get?_push_of_some _ e, T, st, fun b hb => ?_, q⟩
  have e : b = s.heap.objs.size := by simpa using hb
  subst e
  exact I.fpOk (Nat.le_refl _) (I.hok.fresh (Nat.le_refl _))
end
def Itc (lo c : Int) (n : Nat) : It := ⟨fun i _ => i < n, fun i H x H' => H' = H ∧ x = .int (lo + (i : Nat) * c), fun i _ => n ≤ i⟩
theorem turn_rangeC {P : Program} {w : World} {K : PySem.W.Frag} {tg : Expr} (it : Addr) (lo c : Int) (n : Nat) : Turn P w K tg (Itc lo c n) [it] it (fun i h => IsRangeIter h it (lo + (i : Nat) * c) ((n : Int) - (i : Nat)) c) where
  mem := by simp
  obj := fun i h st b hb => by
    have e : b = it := by simpa using hb
    subst e
    exact ⟨_, st, fun v z => nomatch z⟩
  keep := fun i h h' st k => k it (by simp) _ st
  item := by
    intro X hP hw hK hc i pins s σ H E I hf st hg
    subst hP hw hK
    obtain ⟨f0, f1, f2, f3, f4, f5⟩ := hf it (by simp)
    have W := Walks.range (prog := X.prog) (w := X.w) (I.ok.hd hc) it lo c n
    refine W.item i s _ _ hg st fun v h' tk hv st' kk => ?_
    obtain ⟨t, rfl⟩ := hv
    have I1 : Inv X pins σ H { s with heap := h', toks := tk } := I.turned (fun b o hb e => kk b o (by simpa using hb) e) f0 f1 f3 f4 f5
    exact ⟨_, rfl, go_of (s := { s with heap := h', toks := tk }) (n := "range_iterator") st' rfl rfl (by decide) ⟨.int (lo + (i : Nat) * c), H, I1, ⟨t, rfl⟩, ⟨rfl, rfl⟩, st', fun b hb => (hf b hb).1⟩⟩
  done := by
    intro X hP hw hK hc i pins s σ H E I hf st hg
    subst hP hw hK
    obtain ⟨f0, f1, f2, f3, f4, f5⟩ := hf it (by simp)
    exact wpAny_pyNext_range_end (I.ok.hd hc) st (by have : n ≤ i := hg; omega) fun h' eb => ⟨rfl, I.turned (t' := s.toks) (fun b o hb e => eb b o hb e) f0 f1 f3 f4 f5⟩
  self := fun A i s Q E st h => wpAny_pyIter_rangeiter st h
def RgC (i j c : Int) (n : Nat) : Prop := c ≠ 0 ∧ c.natAbs < 1073741824 ∧ Builtin.Range.small i j c = true ∧ Builtin.Range.rangeSize i j c = n
def iRng3 (ta : TA) : TI := fun σ H R => ta σ H fun vs H1 => ∃ (i j c : Int) (n : Nat), vs = [.int i, .int j, .int c] ∧ RgC i j c n ∧ R (Itc i c n) H1
section
variable {X : Cx} {tg : Expr}
theorem pi_range3 {a b c : Expr} {ta : TA} {p pos : Pos} (hg : Gl X "range") (hm : X.mg "range" = none) (ha : PA X [a, b, c] ta)
    (hs : starEach [a, b, c] X.env = (false, eval a X.env) :: starEach [b, c] X.env := by rfl) (hpl : (backTo pos (starEach [b, c] X.env)).any (·.1) = false := by rfl) :
    PI X tg (.Call (.Name "range" p) [a, b, c] [] pos) (iRng3 ta) := by
  intro pins s σ H R I h
  refine Call_ (ld_blt I hg hm boot_range (PyProof.Rows.callWith_type1 (thn (ha pos pins s σ H _ I h) fun us s1 ⟨vs, H1, I1, r1, q1⟩ => ?_) hs hpl))
  obtain ⟨i, j, k, n, e, ⟨c0, c1, c2, c3⟩, q⟩ := q1
  subst e
  cases r1 with
  | cons r rr =>
    cases rr with
    | cons r' rr =>
      cases rr with
      | cons r'' rr =>
        cases rr
        obtain ⟨t, rfl⟩ := r
        obtain ⟨t', rfl⟩ := r'
        obtain ⟨t'', rfl⟩ := r''
        refine call_range_3 c0 ?_ (.inl (PyProof.noPylong_small c1))
        refine wpAny_pyIter_range (IsRange.new ..) c2 ?_
        have I2 : Inv X pins σ H1 { s1 with heap := s1.heap.push { cls := .type "range", data := .fields #[.int i t, .int j t', .int k t''] } } := I1.kept (t' := s1.toks) fun b o e => Heap.get?_push_of_some _ e
        refine pi_one (tk := s1.toks) I2 _ (turn_rangeC _ i k n) ?_ q
        have e1 : i + ((0 : Nat) : Int) * k = i := by simp
        have e2 : (n : Int) - ((0 : Nat) : Int) = Builtin.Range.rangeSize i j k := by rw [c3]; simp
        show IsRangeIter _ _ (i + ((0 : Nat) : Int) * k) ((n : Int) - ((0 : Nat) : Int)) k
        rw [e1, e2]
        exact Heap.get?_push_size _ rfl
end
theorem for_rangeC {lo c : Int} {n : Nat} {g : TG} {tb : TS} {D : Ends} {σ : St} {H : Hp} (Pv : Nat → St → Hp → Prop) (h0 : Pv 0 σ H)
    (hs : ∀ i σ H, i < n → Pv i σ H → g (.int (lo + (i : Nat) * c)) σ H fun σ2 H2 => tb { D with nx := Pv (i + 1), ct := Pv (i + 1), bk := D.nx } σ2 H2) (hd : ∀ σ H, Pv n σ H → D.nx σ H) :
    ∃ W : Nat → Nat → St → Hp → Prop, (∃ m, W 0 m σ H) ∧ ∀ i m σ H, W i m σ H →
      ((Itc lo c n).stop i H ∧ D.nx σ H) ∨ ((Itc lo c n).go i H ∧ ∃ N : St → Hp → Prop, (∀ σ' H', N σ' H' → ∃ m', m' < m ∧ W (i + 1) m' σ' H') ∧ ∀ x H', (Itc lo c n).yld i H x H' → g x σ H' fun σ2 H2 => tb { D with nx := N, ct := N, bk := D.nx } σ2 H2) := by
  refine ⟨fun i m σ H => m = n - i ∧ i ≤ n ∧ Pv i σ H, ⟨n, by simp, Nat.zero_le _, h0⟩, ?_⟩
  rintro i m σ H ⟨rfl, hi, p⟩
  by_cases hlt : i < n
  · refine .inr ⟨hlt, Pv (i + 1), fun σ' H' p' => ⟨n - (i + 1), by omega, rfl, hlt, p'⟩, fun x H' y => ?_⟩
    obtain ⟨e, y⟩ := y
    subst e y
    exact hs i σ _ hlt p
  · have e : i = n := by omega
    subst e
    exact .inl ⟨Nat.le_refl _, hd σ H p⟩
section
variable {X : Cx} {tg : Expr}
end
section
variable {prog : Program} {w : World} {A : Around} {E : Value → Shared → Prop} {s : Shared}
end
section
variable {X : Cx} {pins : List (Addr × Obj)} {σ : St} {H : Hp} {s : Shared} {d : Addr} {o : Obj}
end
section
variable {P : Program} {w : World} {K : PySem.W.Frag} {tg : Expr} {d : Addr} {o : Obj} {es : Array DictEntry} {ep : Nat}
end
section
variable {X : Cx} {tg e : Expr} {td : TE} {apos cpos : Pos}
end
def Ite (K : PySem.W.Frag) (a : Addr) : It :=
  ⟨fun i H => ∃ (xs : List V) (x : V), SqL K H a xs ∧ xs[i]? = some x, fun i H v H' => ∃ T x, v = .ref T ∧ H T = none ∧ H' = upd H T (.tup [.int (i : Nat), x]) ∧ ∀ xs, SqL K H a xs → xs[i]? = some x, fun i H => ∃ xs : List V, SqL K H a xs ∧ xs.length ≤ i⟩
theorem turn_enum {P : Program} {w : World} {K : PySem.W.Frag} {elts : List Expr} {kk : Nat} {tpos : Pos} (a e it : Addr) :
    Turn P w K (.Tuple elts kk tpos) (Ite K a) [e, it] e (fun i h => (∃ old, IsEnum h e it ((i : Nat) : Int) old) ∧ h.IsListIter it a i ∧ e ≠ it) where
  mem := by simp
  obj := fun i h st b hb => by
    obtain ⟨⟨old, he⟩, ⟨o, ho, hc, hd⟩, _⟩ := st
    have e' : b = e ∨ b = it := by simpa using hb
    rcases e' with z | z
    · rw [z]; exact ⟨_, he, fun v q => nomatch q⟩
    · rw [z]; exact ⟨o, ho, fun v q => by rw [hd] at q; cases q⟩
  keep := fun i h h' st k => let ⟨⟨old, he⟩, hi, hne⟩ := st; ⟨⟨old, k e (by simp) _ he⟩, hi.at fun o q => k it (by simp) o q, hne⟩
  item := by
    intro X hP hw hK hc i pins s σ H E I hf st hg
    subst hP hw hK
    obtain ⟨⟨old, he⟩, hit, hne⟩ := st
    obtain ⟨xs, x, hq, hx⟩ := hg
    obtain ⟨its, rv, p, hz⟩ := I.list hq
    obtain ⟨u, hu, ru⟩ := rv.get hx
    have hel : e < s.heap.objs.size := Heap.lt_size he
    have hil : it < s.heap.objs.size := by obtain ⟨_, q, _⟩ := hit; exact Heap.lt_size q
    refine wpAny_pyNext_enum_item he hit p.isList (x := u) (by simpa using hu) hne fun h' ho hit' hT hsz hk => ?_
    refine ⟨_, rfl, wpAny_letOwnedTupleGo_enum (s := { s with heap := h', toks := s.toks + 1 }) ho fun h'' he' sb => ?_⟩
    have hT2 : h''.get? s.heap.objs.size = some { cls := .type "tuple", data := .seq #[.int i s.toks, u] } := (sb.2 _ (Nat.ne_of_gt hel)).trans hT
    have new : ObjOk X.prog X.w (upd H s.heap.objs.size (.tup [.int (i : Nat), x])) h'' s.heap.objs.size (.tup [.int (i : Nat), x]) :=
      ⟨by show 2 ≤ sizeLine; decide, [.int i s.toks, u], .cons ⟨_, rfl⟩ (.cons ru .nil), ⟨_, hT2, rfl, _, rfl⟩⟩
    have I1 : Inv X pins σ (upd H s.heap.objs.size (.tup [.int (i : Nat), x])) { s with heap := h'', toks := s.toks + 1 } :=
      I.turnedNew (ch := [e, it]) (fun b ob hb q => (sb.2 b (fun z => hb (by simp [z]))).trans (hk b ob (fun z => hb (by simp [z])) (fun z => hb (by simp [z])) q)) hf (Nat.le_refl _) new
    refine ⟨.ref s.heap.objs.size, _, I1, rfl, ⟨_, x, rfl, I.hok.fresh (Nat.le_refl _), rfl, fun ys hy => by rw [I.list_inj hy hq]; exact hx⟩, ⟨⟨u, ?_⟩, hit'.at fun o q => (sb.2 it (Ne.symm hne)).trans q, hne⟩, fun b hb => ?_⟩
    · have e1 : ((i + 1 : Nat) : Int) = (i : Int) + 1 := by omega
      rw [e1]; exact he'
    · have hb' : b < s.heap.objs.size := by
        have e' : b = e ∨ b = it := by simpa using hb
        rcases e' with z | z
        · rw [z]; exact hel
        · rw [z]; exact hil
      rw [upd_ne (Nat.ne_of_lt hb')]
      exact (hf b hb).1
  done := by
    intro X hP hw hK hc i pins s σ H E I hf st hg
    subst hP hw hK
    obtain ⟨⟨old, he⟩, hit, hne⟩ := st
    obtain ⟨xs, hq, hx⟩ := hg
    obtain ⟨its, rv, p, hz⟩ := I.list hq
    obtain ⟨f0, f1, f2, f3, f4, f5⟩ := hf it (by simp)
    have hl := rv.length
    exact wpAny_pyNext_enum_end (I.ok.hd hc) he hit p.isList (by simp; omega) fun h' eb => ⟨rfl, I.turned (t' := s.toks) (fun b o hb q => eb b o hb q) f0 f1 f3 f4 f5⟩
  self := fun A i s Q E st h => let ⟨⟨_, he⟩, _⟩ := st; wpAny_pyIter_enum he h
def iEnum (K : PySem.W.Frag) (ta : TA) : TI := fun σ H R => ta σ H fun vs H1 => ∃ a xs, vs = [.ref a] ∧ SqL K H1 a xs ∧ R (Ite K a) H1
theorem pi_enum {X : Cx} {e : Expr} {ta : TA} {p pos tpos : Pos} {elts : List Expr} {kk : Nat} (hg : Gl X "enumerate") (hm : X.mg "enumerate" = none) (ha : PA X [e] ta) (hs : starEach [e] X.env = [(false, eval e X.env)] := by rfl) :
    PI X (.Tuple elts kk tpos) (.Call (.Name "enumerate" p) [e] [] pos) (iEnum X.K ta) := by
  intro pins s σ H R I h
  refine Call_ (ld_blt I hg hm boot_enumerate (PyProof.Rows.callWith_type1 (thn (ha pos pins s σ H _ I h) fun us s1 ⟨vs, H1, I1, r1, q1⟩ => ?_) hs rfl))
  obtain ⟨a, xs, ex, hq, q⟩ := q1
  subst ex
  cases r1 with
  | cons r rr =>
    cases rr
    cases r
    obtain ⟨its, rv, p', hz⟩ := I1.list hq
    refine call_enumerate_list p'.isList fun h' he hit hsz hk => wpAny_pyIter_enum he ?_
    have I2 : Inv X pins σ H1 { s1 with heap := h' } := I1.kept (t' := s1.toks) hk
    refine ⟨s1.heap.objs.size + 1, [s1.heap.objs.size + 1, s1.heap.objs.size], _, _, H1, rfl, I2, turn_enum a (s1.heap.objs.size + 1) s1.heap.objs.size, ⟨⟨.none, he⟩, hit, Nat.succ_ne_self _⟩, fun b hb => ?_, q⟩
    have e' : b = s1.heap.objs.size + 1 ∨ b = s1.heap.objs.size := by simpa using hb
    have hle : s1.heap.objs.size ≤ b := by
      rcases e' with z | z
      · rw [z]; exact Nat.le_add_right _ _
      · rw [z]; exact Nat.le_refl _
    exact I1.fpOk hle (I1.hok.fresh hle)
theorem boot_zip5 : bootBuiltins "zip" = some (.type "zip") := by decide +kernel
end L2
section 
namespace Bits
open PySem PyProof.Rows
theorem bitOr_pp {x y : Int} (hx : 0 ≤ x) (hy : 0 ≤ y) : Builtin.bitOr x y = ((x.toNat ||| y.toNat : Nat) : Int) := by
  have e := nat_or_add_and x.toNat y.toNat
  rw [bitOr_and, bitAnd_pp hx hy]
  omega
end Bits
end 
section 
namespace TL
open PySem PySem.Builtin PySem.Builtin.Str PySem.StrLaws
end TL
end 
namespace L2
open PySem PySem.Spec PyProof.Rows
section
variable {X : Cx} {pins : List (Addr × Obj)} {σ : St} {H : Hp} {s : Shared} {Q : VK}
end
section
variable {X : Cx}
end
section
variable {X : Cx} {o e : Expr} {to te : TE}
end
end L2
namespace L2
open PySem PySem.Spec PyProof.Rows
section
variable {X : Cx}
end
end L2
namespace Att
open PySem PySem.W PySem.Calls PyProof.Rows
section
variable {prog : Program} {w : World} {A : Around} {E : Value → Shared → Prop} {s : Shared} {K : Frag}
end
end Att
namespace L2
open PySem PySem.Spec PyProof.Rows
end L2
namespace L2
open PySem PySem.Spec PyProof.Rows
abbrev KOf {K : PySem.W.Frag} {h : Heap} (_ : K.In h) : PySem.W.Frag := K
end L2
/- THE LAST THEOREM (shape; LID, My.* are yours):
   My.Adr: a structure of the addresses that your layer names (classes, functions); My.Txt K t: a structure (Prop) of the equations over K;
   My.txt_mk : {K} {implicit addresses ..} (e1 : nsIn K mainGlobals "law" = some (some (.ref f))) (e2 : K.lookup f = some ⟨oc, od, .func (fnOf "law" "law" params body scope dV kV doc pm an cdv ct), sl⟩) (e3 : codeIn K cdv "law" = true) .. : ∃ t, My.Txt K t
set_option maxRecDepth 100000 in
set_option maxHeartbeats 0 in
theorem PySem.Challenge.cw_LID_holds : PySem.Challenge.rw_LID.Holds := by
  w_on; o_law; k_head; (case hw => w_witness2)
  k_fill
  refine L2.walk_of (l := PySem.Challenge.rw_LID) (n := 63) (k := 40) (x := "script") (CX := fun w => ..) (sp := fun _ => My.sp_law) rfl (by decide) rfl ⟨rfl, by decide, by decide⟩ (fun w h Y => PySem.W.kIn_of Y) ?F ?S ?C
  case F =>
    intro w mg fa h KX G hmg
    have T : ∃ t, My.Txt (L2.KOf KX) t := by
      dsimp only [L2.KOf]                          -- K must stand as «<heap const> w.params» for k_is
      refine' My.txt_mk ?e1 ?e2 ?e3 ..
      (case e1 => PySem.W.k_is)                    -- in the order: a name -> its address -> its object -> its parts
      (case e2 => PySem.W.k_is)
      ..
    obtain ⟨t, T⟩ := T
    have e0 := hmg.symm.trans (PySem.W.mg_of KX G T.law)
    cases e0                                       -- fa is the law's own address
    exact ⟨_, fun s u => .of_eq rfl, fun base kb nb => My.law_fn T kb nb⟩     -- if «.of_eq rfl» comes too early: refine' ⟨_, ?b, fun base kb nb => My.law_fn T kb nb⟩; exact fun s u => .of_eq rfl
  case S => exact fun w H a ns hl hO hS => ..
  case C => exact ..
(the tactic k_is has no namespace: write k_is) -/
namespace L2
open PySem PySem.Spec PyProof.Rows
def inClass (s : Stmt) (j : Nat) : Stmt := match s with
  | .ClassDef _ _ _ body _ _ _ _ _ _ _ => body.getD j (.Pass ⟨0, 0, 0, 0⟩)
  | _ => .Pass ⟨0, 0, 0, 0⟩
def defArgs (s : Stmt) : Arguments := match s with
  | .FunctionDef _ a _ _ _ _ _ _ _ _ => a
  | _ => { posonlyargs := [], args := [], vararg := none, kwonlyargs := [], kw_defaults := [], kwarg := none, defaults := [] }
def defBody (s : Stmt) : List Stmt := match s with
  | .FunctionDef _ _ b _ _ _ _ _ _ _ => b
  | _ => []
def defScope (s : Stmt) : Scope := match s with
  | .FunctionDef _ _ _ _ _ _ sc _ _ _ => sc
  | _ => { kind := .function, names := [], isGenerator := false, isCoroutine := false }
abbrev CX0 : CXT := fun _ _ _ _ _ _ => False
abbrev E0 : XK := fun _ _ _ => False
theorem pass0 {X : Cx} : Passes CX0 X E0 := fun _ _ _ _ _ _ _ h => h.elim
structure Fun (K : PySem.W.Frag) (x qual : Str) (st : Stmt) (f : Addr) (fd : FuncData) : Prop where
  ex : ∃ (oc : Value) (od : Option Addr) (kV doc pm : Value) (an : Option Addr) (cdv ct : Value) (osl : Array (Option Value)),
    fd = PySem.W.fnOf x qual (defArgs st) (defBody st) (defScope st) .none kV doc pm an cdv ct ∧ K.lookup f = some ⟨oc, od, .func fd, osl⟩ ∧ PySem.W.codeIn K cdv qual = true
  kp : PySem.W.keepIn K (.ref f) = true
section
variable {P : Program} {w : World} {K : PySem.W.Frag} {mg : Str → Option Value} {base : Heap}
theorem Fun.ok {x qual : Str} {st : Stmt} {f : Addr} {fd : FuncData} {N ps : List Str} {k : Nat} {sp : Sp} (F : Fun K x qual st f fd) (S : FnScope N ps (defScope st)) (len : ∀ vs H Q E, sp vs H Q E → vs.length = ps.length)
    (hbody : ∀ (cdv : Value) (A : Around) (outer : List Env) (s : Shared) (H : Hp) (vs : List V) (Q : VK) (E : XK), Room k (A.deeper (envOfC qual (defScope st) s.heap.objs.size f cdv)) → sp vs H Q E →
      ∃ t, PSs (cxOf CX0 P w K mg base N qual (defScope st) f cdv A outer s H E).nox (defBody st) t ∧ t { nx := fun _ H' => Q .non H', rt := Q } (start N vs) H) : FnOk P w K mg base CX0 (k + 1) f fd ps sp := by
  obtain ⟨oc, od, kV, doc, pm, an, cdv, ct, osl, rfl, lk, hcd⟩ := F.ex
  refine fn_of lk hcd S len fun A outer s H vs Q E hr hsp => ?_
  obtain ⟨t, h, q⟩ := hbody cdv A outer s H vs Q E hr hsp
  exact ⟨t, h.nox, q⟩
theorem Fun.binds {x qual : Str} {st : Stmt} {f : Addr} {fd : FuncData} {ps : List Str} (F : Fun K x qual st f fd)
    (h : ∀ (kV doc pm : Value) (an : Option Addr) (cdv ct : Value) (us : List Value), us.length = ps.length → bindArgs (PySem.W.fnOf x qual (defArgs st) (defBody st) (defScope st) .none kV doc pm an cdv ct) ⟨us, []⟩ = pure (ps.zip us)) : Binds K fd ps [] := by
  obtain ⟨oc, od, kV, doc, pm, an, cdv, ct, osl, rfl, lk, hcd⟩ := F.ex
  exact .all (h kV doc pm an cdv ct)
theorem fun_mk {x qual : Str} {st : Stmt} {f : Addr} {oc : Value} {od an : Option Addr} {osl : Array (Option Value)} {kV doc pm cdv ct : Value} (l : K.lookup f = some ⟨oc, od, .func (PySem.W.fnOf x qual (defArgs st) (defBody st) (defScope st) .none kV doc pm an cdv ct), osl⟩)
    (c : PySem.W.codeIn K cdv qual = true) (k : PySem.W.keepIn K (.ref f) = true) : Fun K x qual st f (PySem.W.fnOf x qual (defArgs st) (defBody st) (defScope st) .none kV doc pm an cdv ct) := ⟨⟨oc, od, kV, doc, pm, an, cdv, ct, osl, rfl, l, c⟩, k⟩
end
section
variable {X : Cx}
theorem pv (i : Nat) {x : Str} {pos : Pos} (hN : X.N[i]? = some x := by rfl) (hv : Vis X.env.scope x := by first | exact Or.inl rfl | exact Or.inr (Or.inl rfl) | exact Or.inr (Or.inr rfl)) (hd : (x == ("__debug__" : Str)) = false := by decide)
    (hcd : (x == ("__classdict__" : Str)) = false := by decide) : PE X (.Name x pos) (tVar i) := pe_var hN hv hd hcd
end
theorem iteF {A B : Prop} (h : B) : if false = true then A else B := by
  rw [if_neg Bool.false_ne_true]
  exact h
theorem iteT {A B : Prop} (h : A) : if true = true then A else B := by
  rw [if_pos rfl]
  exact h
theorem ite2 {c A B : Prop} [Decidable c] (h1 : c → A) (h2 : ¬ c → B) : if c then A else B := by
  by_cases h : c
  · rw [if_pos h]
    exact h1 h
  · rw [if_neg h]
    exact h2 h
def Same (H H' : Hp) : Prop := ∀ b o, H b = some o → H' b = some o
theorem Same.refl (H : Hp) : Same H H := fun _ _ h => h
theorem Same.trans {H H1 H2 : Hp} (a : Same H H1) (b : Same H1 H2) : Same H H2 := fun c o h => b c o (a c o h)
theorem Same.free {H H' : Hp} (e : Same H H') {l : Addr} (h : H' l = Option.none) : H l = Option.none := by
  cases q : H l with
  | none => rfl
  | some o =>
    rw [e l o q] at h
    cases h
section
variable {κ : Type} [DecidableEq κ]
end
end L2
section
set_option Elab.async false
set_option linter.all false
set_option maxRecDepth 100000
set_option maxHeartbeats 2000000
namespace L2
open PySem PySem.Spec PyProof.Rows
open PySem.W (WData Codec OpenSpec Well WellAll ReadsW ReadsAllW)
mutual
inductive Dw (K : PySem.W.Frag) (H : Hp) : V → WData → Prop
  | non : Dw K H .non .none
  | bl (b : Bool) : Dw K H (.bl b) (.bool b)
  | int (i : Int) : Dw K H (.int i) (.int i)
  | str (x : Str) : Dw K H (.str x) (.str x)
  | byt (b : Array UInt8) : Dw K H (.byt b) (.bytes b.toList)
  | lst {a : Addr} {xs : List V} {ds : List WData} : SqL K H a xs → DwAll K H xs ds → Dw K H (.ref a) (.list ds)
  | tup {a : Addr} {xs : List V} {ds : List WData} : SqT K H a xs → DwAll K H xs ds → Dw K H (.ref a) (.tuple ds)
inductive DwAll (K : PySem.W.Frag) (H : Hp) : List V → List WData → Prop
  | nil : DwAll K H [] []
  | cons {v : V} {vs : List V} {d : WData} {ds : List WData} : Dw K H v d → DwAll K H vs ds → DwAll K H (v :: vs) (d :: ds)
end
theorem dw_ints {K : PySem.W.Frag} {H : Hp} : ∀ ns : List Int, DwAll K H (ns.map V.int) (ns.map WData.int)
  | [] => .nil
  | n :: r => .cons (.int n) (dw_ints r)
theorem ints_dw {K : PySem.W.Frag} {H : Hp} : ∀ (ns : List Int) (xs : List V), DwAll K H xs (ns.map WData.int) → xs = ns.map V.int
  | [], xs, h => by
    cases h
    rfl
  | n :: r, xs, h => by
    cases h with
    | cons h1 h2 =>
      cases h1
      rw [ints_dw r _ h2] <;> rfl
section
variable {P : Program} {w : World} {K : PySem.W.Frag} {H : Hp} {h : Heap} {R : PySem.W.WRecords} {cl : Str → Option Addr}
theorem sqL_at {a : Addr} {xs : List V} (hok : HOk P w H h) (KX : K.In h) (q : SqL K H a xs) : ∃ (its : List Value) (o : Obj) (n : Nat), Vals xs its ∧ h.get? a = some o ∧ o.cls = .type "list" ∧ o.data = .seq its.toArray n := by
  rcases q with q | ⟨o, its, n, e, hc, _, hd, _, hv⟩
  · obtain ⟨_, its, n, hv, e⟩ := (show ObjOk P w H h a (.lst xs) from q.ok hok)
    exact ⟨its, _, n, hv, e, rfl, rfl⟩
  · exact ⟨its.toList, o, n, hv, KX _ _ e, hc, by simp [hd]⟩
theorem sqT_at {a : Addr} {xs : List V} (hok : HOk P w H h) (KX : K.In h) (q : SqT K H a xs) : ∃ (its : List Value) (o : Obj) (n : Nat), Vals xs its ∧ h.get? a = some o ∧ o.cls = .type "tuple" ∧ o.data = .seq its.toArray n := by
  rcases q with q | ⟨o, its, n, e, hc, hd, _, hv⟩
  · obtain ⟨_, its, hv, o, e, hc, n, hd⟩ := (show ObjOk P w H h a (.tup xs) from q.ok hok)
    exact ⟨its, o, n, hv, e, hc, hd⟩
  · exact ⟨its.toList, o, n, hv, KX _ _ e, hc, by simp [hd]⟩
mutual
theorem Dw.reads (hok : HOk P w H h) (KX : K.In h) : ∀ (d : WData) (v : V) (u : Value), Dw K H v d → RelV v u → ∃ as, ReadsW R cl h u d as
  | .none, _, _, x, r => by
    cases x
    cases r
    exact ⟨_, ReadsW.none⟩
  | .bool b, _, _, x, r => by
    cases x
    cases r
    exact ⟨_, ReadsW.bool b⟩
  | .int i, _, _, x, r => by
    cases x
    obtain ⟨t, rfl⟩ := r
    exact ⟨_, ReadsW.int i t⟩
  | .str s, _, _, x, r => by
    cases x
    obtain ⟨t, rfl⟩ := r
    exact ⟨_, ReadsW.str s t⟩
  | .bytes b, _, _, x, r => by
    cases x
    obtain ⟨t, rfl⟩ := r
    exact ⟨_, ReadsW.bytes _ t⟩
  | .list ds, _, _, x, r => by
    cases x with
    | lst hs ha =>
      cases r
      obtain ⟨its, o, n, rv, ho, hc, hd⟩ := sqL_at hok KX hs
      obtain ⟨as, hr⟩ := Dw.readsAll hok KX ds _ its ha rv
      exact ⟨_, ReadsW.list ho hc hd hr⟩
  | .tuple ds, _, _, x, r => by
    cases x with
    | tup hs ha =>
      cases r
      obtain ⟨its, o, n, rv, ho, hc, hd⟩ := sqT_at hok KX hs
      obtain ⟨as, hr⟩ := Dw.readsAll hok KX ds _ its ha rv
      exact ⟨_, ReadsW.tuple ho hc hd hr⟩
  | .float _, _, _, x, _ => by cases x
  | .dict _, _, _, x, _ => by cases x
  | .bytearray _, _, _, x, _ => by cases x
  | .set _, _, _, x, _ => by cases x
  | .frozenset _, _, _, x, _ => by cases x
  | .obj _ _, _, _, x, _ => by cases x
theorem Dw.readsAll (hok : HOk P w H h) (KX : K.In h) : ∀ (ds : List WData) (vs : List V) (us : List Value), DwAll K H vs ds → Vals vs us → ∃ as, ReadsAllW R cl h us ds as
  | [], _, _, x, r => by
    cases x
    cases r
    exact ⟨_, ReadsAllW.nil⟩
  | d :: ds, _, _, x, r => by
    cases x with
    | cons h1 h2 =>
      cases r with
      | cons r1 r2 =>
        obtain ⟨as, q1⟩ := Dw.reads hok KX d _ _ h1 r1
        obtain ⟨bs, q2⟩ := Dw.readsAll hok KX ds _ _ h2 r2
        exact ⟨_, ReadsAllW.cons q1 q2⟩
end
end
mutual
def plW : WData → Bool
  | .none => true
  | .bool _ => true
  | .int _ => true
  | .str _ => true
  | .bytes _ => true
  | .list xs => plWs xs
  | .tuple xs => plWs xs
  | _ => false
def plWs : List WData → Bool
  | [] => true
  | x :: r => plW x && plWs r
end
theorem plWs_map {α : Type} {f : α → WData} (h : ∀ a, plW (f a) = true) : ∀ l : List α, plWs (l.map f) = true
  | [] => rfl
  | x :: r => by
    show (plW (f x) && plWs (r.map f)) = true
    rw [h x, plWs_map h r] <;> rfl
theorem pl_enc : ∀ (c : Codec) (a : c.denote), plW (c.enc a) = true
  | .unit, _ => rfl
  | .bool, _ => rfl
  | .int _ _, _ => rfl
  | .nat _ _, _ => rfl
  | .u8, _ => rfl
  | .bytes _ _, _ => rfl
  | .text _ _ _ _, _ => rfl
  | .list _ _ c, a => plWs_map (fun x => pl_enc c x) a
  | .pair c d, a => by
    show (plW (c.enc a.1) && (plW (d.enc a.2) && true)) = true
    rw [pl_enc c a.1, pl_enc d a.2] <;> rfl
  | .triple c d e, a => by
    show (plW (c.enc a.1) && (plW (d.enc a.2.1) && (plW (e.enc a.2.2) && true))) = true
    rw [pl_enc c a.1, pl_enc d a.2.1, pl_enc e a.2.2] <;> rfl
  | .option c, none => rfl
  | .option c, some x => pl_enc c x
theorem pl_encAll : ∀ (cs : List Codec) (a : Codec.denoteAll cs), plWs (Codec.encAll cs a) = true
  | [], _ => rfl
  | c :: cs, a => by
    show (plW (c.enc a.1) && plWs (Codec.encAll cs a.2)) = true
    rw [pl_enc c a.1, pl_encAll cs a.2] <;> rfl
theorem weight_mem : ∀ {xs : List WData} {d : WData}, d ∈ xs → d.weight ≤ WData.weightAll xs
  | [], d, h => absurd h (by simp)
  | x :: r, d, h => by
    show d.weight ≤ x.weight + 1 + WData.weightAll r
    rcases List.mem_cons.mp h with e | m
    · rw [e]
      omega
    · have z := weight_mem m
      omega
def toV : Value → V
  | .none => .non
  | .bool b => .bl b
  | .int i _ => .int i
  | .str x _ => .str x
  | .bytes b _ => .byt b
  | .ref a => .ref a
  | _ => .non
def OkU (A : List Addr) : Value → Prop
  | .none => True
  | .bool _ => True
  | .int _ _ => True
  | .str _ _ => True
  | .bytes _ _ => True
  | .ref a => a ∈ A
  | _ => False
theorem OkU.mono {A B : List Addr} (h : ∀ a ∈ A, a ∈ B) : ∀ {u : Value}, OkU A u → OkU B u := fun {u} x => by
  cases u with
  | ref a => exact h a x
  | none => trivial
  | bool b => trivial
  | int i t => trivial
  | str s t => trivial
  | bytes b t => trivial
  | _ => exact False.elim x
theorem relV_toV {A : List Addr} {u : Value} (x : OkU A u) : RelV (toV u) u := by
  cases u with
  | ref a => rfl
  | none => rfl
  | bool b => rfl
  | int i t => exact ⟨t, rfl⟩
  | str s t => exact ⟨t, rfl⟩
  | bytes b t => exact ⟨t, rfl⟩
  | _ => exact False.elim x
theorem vals_toV {A : List Addr} : ∀ {vs : List Value}, (∀ u ∈ vs, OkU A u) → Vals (vs.map toV) vs
  | [], _ => .nil
  | u :: r, h => .cons (relV_toV (h u (List.mem_cons_self ..))) (vals_toV fun x hx => h x (List.mem_cons_of_mem _ hx))
def ArgOb (h : Heap) (A : List Addr) (a : Addr) : Prop := ∃ vs : List Value, vs.length ≤ sizeLine ∧ (∀ u ∈ vs, OkU A u) ∧
  (h.get? a = some { cls := .type "list", data := .seq vs.toArray } ∨ h.get? a = some { cls := .type "tuple", data := .seq vs.toArray })
theorem ArgOb.mono {h : Heap} {A B : List Addr} {a : Addr} (k : ∀ a ∈ A, a ∈ B) (x : ArgOb h A a) : ArgOb h B a := by
  obtain ⟨vs, h1, h2, h3⟩ := x
  exact ⟨vs, h1, fun u hu => (h2 u hu).mono k, h3⟩
theorem wellAll_len {P : Params} {h : Heap} : ∀ {vs : List Value} {ds : List WData}, WellAll P h vs ds → vs.length = ds.length
  | _, _, .nil => rfl
  | _, _, .cons _ b => by
    show _ + 1 = _ + 1
    rw [wellAll_len b]
theorem well_list {P : Params} {h : Heap} {v : Value} {ds : List WData} (x : Well P h v (.list ds)) : ∃ (a : Addr) (vs : List Value), v = .ref a ∧ h.get? a = some { cls := .type "list", data := .seq vs.toArray } ∧ WellAll P h vs ds := by
  cases x with
  | list ho hall => exact ⟨_, _, rfl, ho, hall⟩
theorem well_tuple {P : Params} {h : Heap} {v : Value} {ds : List WData} (x : Well P h v (.tuple ds)) : ∃ (a : Addr) (vs : List Value), v = .ref a ∧ h.get? a = some { cls := .type "tuple", data := .seq vs.toArray } ∧ WellAll P h vs ds := by
  cases x with
  | tuple ho hall => exact ⟨_, _, rfl, ho, hall⟩
theorem well_cons {P : Params} {h : Heap} {us : List Value} {d : WData} {ds : List WData} (x : WellAll P h us (d :: ds)) : ∃ (v : Value) (vs : List Value), us = v :: vs ∧ Well P h v d ∧ WellAll P h vs ds := by
  cases x with
  | cons a b => exact ⟨_, _, rfl, a, b⟩
theorem line_of {n : Nat} (h : n ≤ 1048576) : n ≤ sizeLine := Nat.le_trans h (by decide)
section
variable {P : Params} {h : Heap}
mutual
theorem area_one : ∀ (d : WData) (v : Value), Well P h v d → plW d = true → d.weight ≤ 1048576 → ∃ A : List Addr, OkU A v ∧ ∀ a ∈ A, ArgOb h A a
  | .none, _, x, _, _ => by
    cases x
    exact ⟨[], trivial, fun a m => absurd m (by simp)⟩
  | .bool b, _, x, _, _ => by
    cases x
    exact ⟨[], trivial, fun a m => absurd m (by simp)⟩
  | .int i, _, x, _, _ => by
    cases x
    exact ⟨[], trivial, fun a m => absurd m (by simp)⟩
  | .str s, _, x, _, _ => by
    cases x
    exact ⟨[], trivial, fun a m => absurd m (by simp)⟩
  | .bytes b, _, x, _, _ => by
    cases x
    exact ⟨[], trivial, fun a m => absurd m (by simp)⟩
  | .list ds, _, x, p, z => by
    obtain ⟨a, vs, rfl, ho, hall⟩ := well_list x
    have z2 : WData.weightAll ds ≤ 1048576 := z
    obtain ⟨A, h1, h2⟩ := area_all ds _ hall p fun d hd => Nat.le_trans (weight_mem hd) z2
    have k : ∀ b ∈ A, b ∈ a :: A := fun b hb => List.mem_cons_of_mem _ hb
    refine ⟨a :: A, List.mem_cons_self .., fun b hb => ?_⟩
    rcases List.mem_cons.mp hb with e | m
    · rw [e]
      exact ⟨vs, line_of (by rw [wellAll_len hall]; exact Nat.le_trans (PySem.W.length_le_weightAllW ds) z2), fun u hu => (h1 u hu).mono k, .inl ho⟩
    · exact (h2 b m).mono k
  | .tuple ds, _, x, p, z => by
    obtain ⟨a, vs, rfl, ho, hall⟩ := well_tuple x
    have z2 : WData.weightAll ds ≤ 1048576 := z
    obtain ⟨A, h1, h2⟩ := area_all ds _ hall p fun d hd => Nat.le_trans (weight_mem hd) z2
    have k : ∀ b ∈ A, b ∈ a :: A := fun b hb => List.mem_cons_of_mem _ hb
    refine ⟨a :: A, List.mem_cons_self .., fun b hb => ?_⟩
    rcases List.mem_cons.mp hb with e | m
    · rw [e]
      exact ⟨vs, line_of (by rw [wellAll_len hall]; exact Nat.le_trans (PySem.W.length_le_weightAllW ds) z2), fun u hu => (h1 u hu).mono k, .inr ho⟩
    · exact (h2 b m).mono k
  | .float _, _, _, p, _ => Bool.noConfusion (show false = true from p)
  | .dict _, _, _, p, _ => Bool.noConfusion (show false = true from p)
  | .bytearray _, _, _, p, _ => Bool.noConfusion (show false = true from p)
  | .set _, _, _, p, _ => Bool.noConfusion (show false = true from p)
  | .frozenset _, _, _, p, _ => Bool.noConfusion (show false = true from p)
  | .obj _ _, _, _, p, _ => Bool.noConfusion (show false = true from p)
theorem area_all : ∀ (ds : List WData) (vs : List Value), WellAll P h vs ds → plWs ds = true → (∀ d ∈ ds, d.weight ≤ 1048576) → ∃ A : List Addr, (∀ u ∈ vs, OkU A u) ∧ ∀ a ∈ A, ArgOb h A a
  | [], _, x, _, _ => by
    cases x
    exact ⟨[], fun u m => absurd m (by simp), fun a m => absurd m (by simp)⟩
  | d :: ds, _, x, p, z => by
    obtain ⟨v, vs, rfl, x1, x2⟩ := well_cons x
    have q : plW d = true ∧ plWs ds = true := Bool.and_eq_true_iff.mp p
    obtain ⟨A, a1, a2⟩ := area_one d v x1 q.1 (z d (List.mem_cons_self ..))
    obtain ⟨B, b1, b2⟩ := area_all ds vs x2 q.2 fun e he => z e (List.mem_cons_of_mem _ he)
    have kA : ∀ b ∈ A, b ∈ A ++ B := fun b hb => List.mem_append.mpr (.inl hb)
    have kB : ∀ b ∈ B, b ∈ A ++ B := fun b hb => List.mem_append.mpr (.inr hb)
    refine ⟨A ++ B, fun u hu => ?_, fun b hb => ?_⟩
    · rcases List.mem_cons.mp hu with e | m
      · rw [e]
        exact a1.mono kA
      · exact (b1 u m).mono kB
    · rcases List.mem_append.mp hb with m | m
      · exact (a2 b m).mono kA
      · exact (b2 b m).mono kB
end
end
def hoOf (o : Obj) : Option HO := match o.data with
  | .seq vs _ => if (o.cls == Value.type "list") = true then some (.frz o (.lst (vs.toList.map toV))) else some (.frz o (.tup (vs.toList.map toV)))
  | _ => none
def argH (K : PySem.W.Frag) (h : Heap) (A : List Addr) : Hp := fun b => if b ∈ A then (if (K.lookup b).isNone = true then (h.get? b).bind hoOf else none) else none
def OnlyF (H : Hp) : Prop := ∀ b, H b = none ∨ ∃ o u, H b = some (.frz o u)
theorem hoOf_lst (vs : List Value) : hoOf { cls := .type "list", data := .seq vs.toArray } = some (.frz { cls := .type "list", data := .seq vs.toArray } (.lst (vs.map toV))) := by
  show (if (Value.type "list" == Value.type "list") = true then some (HO.frz { cls := .type "list", data := .seq vs.toArray } (.lst (vs.toArray.toList.map toV))) else some (HO.frz { cls := .type "list", data := .seq vs.toArray } (.tup (vs.toArray.toList.map toV)))) = _
  rw [if_pos (beq_self_eq_true _)]
theorem hoOf_tup (vs : List Value) : hoOf { cls := .type "tuple", data := .seq vs.toArray } = some (.frz { cls := .type "tuple", data := .seq vs.toArray } (.tup (vs.map toV))) := by
  show (if (Value.type "tuple" == Value.type "list") = true then some (HO.frz { cls := .type "tuple", data := .seq vs.toArray } (.lst (vs.toArray.toList.map toV))) else some (HO.frz { cls := .type "tuple", data := .seq vs.toArray } (.tup (vs.toArray.toList.map toV)))) = _
  rw [if_neg (by decide)]
section
variable {P : Program} {w : World} {K : PySem.W.Frag} {h : Heap} {A : List Addr}
theorem argH_at {b : Addr} {o : Obj} (hb : b ∈ A) (hk : K.lookup b = none) (e : h.get? b = some o) : argH K h A b = hoOf o := by
  unfold argH
  rw [if_pos hb, hk, if_pos (show (none : Option Obj).isNone = true from rfl), e] <;> rfl
theorem of_argH {b : Addr} {u : HO} (q : argH K h A b = some u) : b ∈ A ∧ K.lookup b = none := by
  unfold argH at q
  by_cases hb : b ∈ A
  · rw [if_pos hb] at q
    cases hk : K.lookup b with
    | none => exact ⟨hb, rfl⟩
    | some o =>
      rw [hk, if_neg (by simp)] at q
      cases q
  · rw [if_neg hb] at q
    cases q
theorem argH_is (ar : ∀ a ∈ A, ArgOb h A a) {b : Addr} {u : HO} (q : argH K h A b = some u) : K.lookup b = none ∧ ∃ vs : List Value, vs.length ≤ sizeLine ∧ (∀ u ∈ vs, OkU A u) ∧
    ((h.get? b = some { cls := .type "list", data := .seq vs.toArray } ∧ u = .frz { cls := .type "list", data := .seq vs.toArray } (.lst (vs.map toV))) ∨
     (h.get? b = some { cls := .type "tuple", data := .seq vs.toArray } ∧ u = .frz { cls := .type "tuple", data := .seq vs.toArray } (.tup (vs.map toV)))) := by
  obtain ⟨hb, hk⟩ := of_argH q
  obtain ⟨vs, h1, h2, h3⟩ := ar b hb
  refine ⟨hk, vs, h1, h2, ?_⟩
  rcases h3 with e | e
  · rw [argH_at hb hk e, hoOf_lst] at q
    exact .inl ⟨e, (Option.some.inj q).symm⟩
  · rw [argH_at hb hk e, hoOf_tup] at q
    exact .inr ⟨e, (Option.some.inj q).symm⟩
theorem argH_only (ar : ∀ a ∈ A, ArgOb h A a) : OnlyF (argH K h A) := fun b => by
  cases q : argH K h A b with
  | none => exact .inl rfl
  | some u =>
    obtain ⟨_, vs, _, _, ⟨_, e⟩ | ⟨_, e⟩⟩ := argH_is ar q
    · exact .inr ⟨_, _, by rw [e]⟩
    · exact .inr ⟨_, _, by rw [e]⟩
theorem argH_ok (ar : ∀ a ∈ A, ArgOb h A a) : HOk P w (argH K h A) h := fun b u q => by
  obtain ⟨_, vs, h1, h2, ⟨e, rfl⟩ | ⟨e, rfl⟩⟩ := argH_is ar q
  · exact ⟨e, by rw [List.length_map]; exact h1, vs, _, vals_toV h2, e⟩
  · exact ⟨e, by rw [List.length_map]; exact h1, vs, vals_toV h2, _, e, rfl, _, rfl⟩
theorem seq_inj {c c' : Value} {vs us : List Value} (e : (some { cls := c, data := .seq vs.toArray } : Option Obj) = some { cls := c', data := .seq us.toArray }) : c = c' ∧ vs = us := by
  have e1 := Option.some.inj e
  have e2 : c = c' := congrArg Obj.cls e1
  have e3 : Data.seq vs.toArray = Data.seq us.toArray := congrArg Obj.data e1
  injection e3 with e4
  refine ⟨e2, ?_⟩
  have e5 := congrArg Array.toList e4
  simpa using e5
theorem argL (KX : K.In h) (ar : ∀ a ∈ A, ArgOb h A a) {a : Addr} {vs : List Value} (ha : a ∈ A) (e : h.get? a = some { cls := .type "list", data := .seq vs.toArray }) : (∀ u ∈ vs, OkU A u) ∧ SqL K (argH K h A) a (vs.map toV) := by
  obtain ⟨us, h1, h2, h3⟩ := ar a ha
  have hu : us = vs := by
    rcases h3 with q | q
    · rw [e] at q
      exact (seq_inj q).2.symm
    · rw [e] at q
      exact absurd (Value.type.inj (seq_inj q).1) (by decide)
  subst hu
  refine ⟨h2, ?_⟩
  cases hk : K.lookup a with
  | none => exact .inl (.inr ⟨_, by rw [argH_at ha hk e, hoOf_lst]⟩)
  | some o =>
    have e2 := KX a o hk
    rw [e] at e2
    obtain rfl := Option.some.inj e2
    exact .inr ⟨_, us.toArray, _, hk, rfl, rfl, rfl, by rw [List.size_toArray]; exact h1, by simpa using vals_toV h2⟩
theorem argT (KX : K.In h) (ar : ∀ a ∈ A, ArgOb h A a) {a : Addr} {vs : List Value} (ha : a ∈ A) (e : h.get? a = some { cls := .type "tuple", data := .seq vs.toArray }) : (∀ u ∈ vs, OkU A u) ∧ SqT K (argH K h A) a (vs.map toV) := by
  obtain ⟨us, h1, h2, h3⟩ := ar a ha
  have hu : us = vs := by
    rcases h3 with q | q
    · rw [e] at q
      exact absurd (Value.type.inj (seq_inj q).1) (by decide)
    · rw [e] at q
      exact (seq_inj q).2.symm
  subst hu
  refine ⟨h2, ?_⟩
  cases hk : K.lookup a with
  | none => exact .inl (.inr ⟨_, by rw [argH_at ha hk e, hoOf_tup]⟩)
  | some o =>
    have e2 := KX a o hk
    rw [e] at e2
    obtain rfl := Option.some.inj e2
    exact .inr ⟨_, us.toArray, _, hk, rfl, rfl, by rw [List.size_toArray]; exact h1, by simpa using vals_toV h2⟩
mutual
theorem dw_one {Pm : Params} (KX : K.In h) (ar : ∀ a ∈ A, ArgOb h A a) : ∀ (d : WData) (v : Value), Well Pm h v d → plW d = true → OkU A v → Dw K (argH K h A) (toV v) d
  | .none, _, x, _, _ => by
    cases x
    exact .non
  | .bool b, _, x, _, _ => by
    cases x
    exact .bl b
  | .int i, _, x, _, _ => by
    cases x
    exact .int i
  | .str s, _, x, _, _ => by
    cases x
    exact .str s
  | .bytes b, _, x, _, _ => by
    cases x
    have z := Dw.byt (K := K) (H := argH K h A) b.toArray
    exact z
  | .list ds, _, x, p, hu => by
    obtain ⟨a, vs, rfl, ho, hall⟩ := well_list x
    obtain ⟨h2, hs⟩ := argL KX ar hu ho
    exact .lst hs (dw_all KX ar ds _ hall p h2)
  | .tuple ds, _, x, p, hu => by
    obtain ⟨a, vs, rfl, ho, hall⟩ := well_tuple x
    obtain ⟨h2, hs⟩ := argT KX ar hu ho
    exact .tup hs (dw_all KX ar ds _ hall p h2)
  | .float _, _, _, p, _ => Bool.noConfusion (show false = true from p)
  | .dict _, _, _, p, _ => Bool.noConfusion (show false = true from p)
  | .bytearray _, _, _, p, _ => Bool.noConfusion (show false = true from p)
  | .set _, _, _, p, _ => Bool.noConfusion (show false = true from p)
  | .frozenset _, _, _, p, _ => Bool.noConfusion (show false = true from p)
  | .obj _ _, _, _, p, _ => Bool.noConfusion (show false = true from p)
theorem dw_all {Pm : Params} (KX : K.In h) (ar : ∀ a ∈ A, ArgOb h A a) : ∀ (ds : List WData) (vs : List Value), WellAll Pm h vs ds → plWs ds = true → (∀ u ∈ vs, OkU A u) → DwAll K (argH K h A) (vs.map toV) ds
  | [], _, x, _, _ => by
    cases x
    exact .nil
  | d :: ds, _, x, p, hu => by
    obtain ⟨v, vs, rfl, x1, x2⟩ := well_cons x
    have q : plW d = true ∧ plWs ds = true := Bool.and_eq_true_iff.mp p
    exact .cons (dw_one KX ar d v x1 q.1 (hu _ (List.mem_cons_self ..))) (dw_all KX ar ds vs x2 q.2 fun u m => hu u (List.mem_cons_of_mem _ m))
end
end
theorem spec_call {P : Program} {w : World} {K : PySem.W.Frag} {mg mb : Str → Option Value} {CX : CXT} {k : Nat} {fa : Addr} {fd : FuncData} {ps : List Str} {sp : Sp} {s₁ : Shared} {vals : List Value} {ds : List WData} {R : PySem.W.WRecords} {cl : Str → Option Addr} {d0 : WData}
    (KX : K.In s₁.heap) (hns : s₁.heap.Ns mainGlobals mg) (hb : s₁.heap.Ns builtinsNs mb) (hbb : ∀ x : Str, x ≠ "__name__" → mb x = bootBuiltins x) (hlim : s₁.heap.NoLimit) (hg : s₁.gens = #[])
    (hwl : WellAll w.params s₁.heap vals ds) (hpl : plWs ds = true) (hwt : ∀ d ∈ ds, d.weight ≤ 1048576) (hr : Room k callerA)
    (F : ∀ base : Heap, K.In base → base.Ns mainGlobals mg → FnOk P w K mg base CX k fa fd ps sp) (hbind : ∀ (s : Shared) (us : List Value), us.length = ps.length → BindsTo s fd ⟨us, []⟩ (ps.zip us)) (hlen : ds.length = ps.length)
    (hsp : ∀ (H : Hp) (xs : List V), OnlyF H → DwAll K H xs ds → sp xs H (fun v H' => Dw K H' v d0) fun _ _ _ => False)
    (hCX : ∀ H e s', CX [] H s₁ (fun _ _ _ => False) e s' → False) :
    codeAny (model P w) callerA (.call (.ref fa) ⟨vals, []⟩) (fun r s' => ∃ u as, r = .ok (.ret u) ∧ ReadsW R cl s'.heap u d0 as ∧ OldK s₁.heap s'.heap ∧ s'.os = s₁.os ∧ AllBare s'.gens) s₁ := by
  obtain ⟨A, ho, ar⟩ := area_all ds vals hwl hpl hwt
  have hO : OnlyF (argH K s₁.heap A) := argH_only ar
  have hok : HOk P w (argH K s₁.heap A) s₁.heap := argH_ok ar
  have hS := dw_all KX ar ds vals hwl hpl ho
  have hV := vals_toV ho
  have hK : ∀ b u, argH K s₁.heap A b = some u → K.lookup b = none := fun b u q => (argH_is ar q).1
  have noA : ∀ {b : Addr} {o : Obj} {es : Array DictEntry} {ep : Nat}, s₁.heap.get? b = some o → o.data = .dict es ep → argH K s₁.heap A b = none := fun {b o es ep} e d => by
    cases q : argH K s₁.heap A b with
    | none => rfl
    | some u =>
      obtain ⟨_, vs, _, _, ⟨e2, _⟩ | ⟨e2, _⟩⟩ := argH_is ar q
      · rw [e2] at e
        cases e
        have d' : Data.seq vs.toArray _ = Data.dict es ep := d
        cases d'
      · rw [e2] at e
        cases e
        have d' : Data.seq vs.toArray _ = Data.dict es ep := d
        cases d'
  generalize argH K s₁.heap A = H at hO hok hS hK noA
  have base_of : ∀ {b : Addr} {o : Obj}, s₁.heap.get? b = some o → H b = none → (hidT s₁.heap H).get? b = some o := fun e n => hidT_get e n
  have nsK : ∀ {b : Addr} {m : Str → Option Value}, s₁.heap.Ns b m → (hidT s₁.heap H).Ns b m := fun {b m} ⟨o, es, ep, e, d, r⟩ => ⟨o, es, ep, base_of e (noA e d), d, r⟩
  have nK : ∀ b o, K.lookup b = some o → H b = none := fun b o e => by
    cases q : H b with
    | none => rfl
    | some u =>
      rw [hK b u q] at e
      cases e
  have hKb : K.In (hidT s₁.heap H) := fun b o e => base_of (KX b o e) (nK b o e)
  have hM : Mod K mg (hidT s₁.heap H) := ⟨hKb, nsK hns, ⟨mb, nsK hb, hbb⟩, let ⟨mc, h1, h2⟩ := hlim; ⟨mc, nsK h1, h2⟩⟩
  have e0 : Env0 P w K mg (hidT s₁.heap H) callerA [] s₁ H := ⟨rfl, hM, fun b o e => of_hidT e, Nat.le_of_eq (hidT_size _ _), trivial, fun b hb => absurd (show b ∈ ([] : List Addr) from hb) (by simp), hok, .of_eq hg⟩
  have hl : vals.length = ps.length := by rw [wellAll_len hwl]; exact hlen
  refine codeAny_mono ((F _ hKb (nsK hns)).run callerA [] s₁ H ⟨vals, []⟩ vals (vals.map toV) _ _ hr e0 (hbind s₁ vals hl) hV (hsp H _ hO hS)) fun r s' x => ?_
  cases r with
  | error e => exact (hCX H e s' x).elim
  | ok fl =>
    cases fl with
    | next => exact False.elim x
    | brk => exact False.elim x
    | cont => exact False.elim x
    | ret u =>
      obtain ⟨v, H', os, bare, un, hok', r', q⟩ := x
      have kept : ∀ b o, s₁.heap.get? b = some o → s'.heap.get? b = some o := fun b o e => by
        cases q2 : H b with
        | none => exact un.keep b o e q2 (by intro z; exact absurd (show b ∈ ([] : List Addr) from z) (by simp)) (by simp)
        | some u2 =>
          rcases hO b with z | ⟨ob, u3, z⟩
          · rw [q2] at z
            cases z
          · have z2 := un.frzs b ob _ z
            obtain ⟨e1, _⟩ := hok b _ z
            obtain ⟨e2, _⟩ := hok' b _ z2
            rw [e] at e1
            cases e1
            exact e2
      have KX' : K.In s'.heap := fun b o e => kept b o (KX b o e)
      obtain ⟨as, hrd⟩ := Dw.reads (R := R) (cl := cl) hok' KX' d0 v u q r'
      exact ⟨u, as, rfl, hrd, OldK.of_keep kept, os, bare⟩
theorem layable_weight {ds : List WData} (h : WData.layableAll ds = true) : ∀ d ∈ ds, d.weight ≤ 1048576 := fun d hd =>
  (PySem.W.layableW_iff.mp (List.all_eq_true.mp h d hd)).2.2
theorem encAll_len : ∀ (cs : List Codec) (a : Codec.denoteAll cs), (Codec.encAll cs a).length = cs.length
  | [], _ => rfl
  | c :: cs, a => by
    show (Codec.encAll cs a.2).length + 1 = cs.length + 1
    rw [encAll_len cs a.2]
theorem walk_spec {r : OpenSpec} {k : Nat} {q : Program} {loose : List Str} {XP : (Str → Option Value) → Heap → Prop} {YP : World → Heap → Prop} {d : DefRec} {K : Params → PySem.W.Frag} {CX : World → CXT} {ps : List Str} {sp : World → Sp}
    (hwell : r.wellSaid = true) (hdf : d.params.defaults = []) (hlen : r.args.length = ps.length) (hr : Room k callerA)
    (hY : ∀ (w : World) (h : Heap), YP w h → (K w.params).In h)
    (F : ∀ (w : World) (mg : Str → Option Value) (fa : Addr) (h : Heap), YP w h → (K w.params).In h → h.Ns mainGlobals mg → mg d.name = some (.ref fa) →
      ∃ fd : FuncData, (∀ (s : Shared) (us : List Value), us.length = ps.length → BindsTo s fd ⟨us, []⟩ (ps.zip us)) ∧
        ∀ base : Heap, (K w.params).In base → base.Ns mainGlobals mg → FnOk r.prog w (K w.params) mg base (CX w) k fa fd ps (sp w))
    (hsp : ∀ (w : World) (H : Hp) (xs : List V) (a : Codec.denoteAll r.args), OnlyF H → Codec.withinAll r.args a = true → Codec.app r.args r.asked a = true → DwAll (K w.params) H xs (Codec.encAll r.args a) →
      sp w xs H (fun v H' => Dw (K w.params) H' v (r.ret.enc (Codec.app r.args r.f a))) fun _ _ _ => False)
    (hCX : ∀ (w : World) (H : Hp) (s : Shared) (e : Value) (s' : Shared), CX w [] H s (fun _ _ _ => False) e s' → False) :
    PySem.W.WalkOS q loose XP YP r d [] (fun f vs => PySem.call f vs) := by
  intro w s_0 s₁ mg mb G Y fa o pm cd doc dV kV ho hd hcd hD hmg hg args vals as hpre hlay hrd hwl hlo
  obtain ⟨a, e1, e2⟩ := PySem.W.os_pre_some hpre
  obtain ⟨e3, hwi⟩ := Codec.encAll_of_decAll r.args args a e1
  subst e3
  have KX := hY w _ Y
  obtain ⟨fd, hb, hF⟩ := F w mg fa _ Y KX G.T.g hmg
  refine PySem.W.enter_call (codeAny_mono (spec_call (R := []) (cl := classAt s_0.heap) (d0 := r.ret.enc (Codec.app r.args r.f a)) KX G.T.g G.T.b G.T.builtins G.T.nolimit hg hwl (pl_encAll _ _) (layable_weight hlay) hr hF hb (by rw [encAll_len]; exact hlen)
    (fun H xs hO hS => hsp w H xs a hO hwi e2 hS) fun H e s' => hCX w H s₁ e s') fun r' s' hq => ?_)
  obtain ⟨u, as', rfl, h1, h2, h3, h4⟩ := hq
  exact ⟨.inl ⟨u, _, as', rfl, fun _ => rfl, h1, (OpenSpec.post_iff hwell hwi _ _).mpr rfl, fun z => Bool.noConfusion (show false = true from z)⟩, h2, h3, h4⟩
theorem walk_specK {r : OpenSpec} {k : Nat} {q : Program} {loose : List Str} {XP : (Str → Option Value) → Heap → Prop} {YP : World → Heap → Prop} {d : DefRec} {K : Params → PySem.W.Frag} {CX : CXT} {ps : List Str} {sp : PySem.W.Frag → Sp}
    (hwell : r.wellSaid = true) (hdf : d.params.defaults = []) (hlen : r.args.length = ps.length) (hr : Room k callerA)
    (hY : ∀ (w : World) (h : Heap), YP w h → (K w.params).In h)
    (F : ∀ (w : World) (mg : Str → Option Value) (fa : Addr) (h : Heap), YP w h → (K w.params).In h → h.Ns mainGlobals mg → mg d.name = some (.ref fa) →
      ∃ fd : FuncData, (∀ (s : Shared) (us : List Value), us.length = ps.length → BindsTo s fd ⟨us, []⟩ (ps.zip us)) ∧
        ∀ base : Heap, (K w.params).In base → base.Ns mainGlobals mg → FnOk r.prog w (K w.params) mg base CX k fa fd ps (sp (K w.params)))
    (hsp : ∀ (K : PySem.W.Frag) (H : Hp) (xs : List V) (a : Codec.denoteAll r.args), OnlyF H → Codec.withinAll r.args a = true → Codec.app r.args r.asked a = true → DwAll K H xs (Codec.encAll r.args a) →
      sp K xs H (fun v H' => Dw K H' v (r.ret.enc (Codec.app r.args r.f a))) fun _ _ _ => False)
    (hCX : ∀ (H : Hp) (s : Shared) (e : Value) (s' : Shared), CX [] H s (fun _ _ _ => False) e s' → False) :
    PySem.W.WalkOS q loose XP YP r d [] (fun f vs => PySem.call f vs) :=
  walk_spec (K := K) (CX := fun _ => CX) (sp := fun w => sp (K w.params)) hwell hdf hlen hr hY F (fun w H xs a h1 h2 h3 h4 => hsp (K w.params) H xs a h1 h2 h3 h4) fun _ H s e s' => hCX H s e s'
end L2
end
set_option linter.all false
namespace Sm
open Vbavab
abbrev gm (ms : List Msg) (i : Nat) : Msg := ms.getD i noMsg
theorem gm_at {ms : List Msg} {i : Nat} (h : i < ms.length) : ms[i]? = some (gm ms i) := by
  unfold gm; rw [List.getD_eq_getElem?_getD, List.getElem?_eq_getElem h]; rfl
structure OkM (m : Msg) : Prop where
  p1 : 1 ≤ m.period
  p2 : m.period ≤ 64
  l1 : 1 ≤ m.len
  fit : m.late + m.len ≤ m.period
  el : m.early ≤ m.late
  b1 : 1 ≤ m.buses
  b3 : m.buses ≤ 3
structure OkD (n : Nat) (d : Demand) : Prop where
  a : d.a < n
  b : d.b < n
  ne : d.a ≠ d.b
  k : d.kind ≤ 1
  g : d.gap ≤ 64
def apartL (a b : Msg) (lead : Int) (gap : Nat) : Bool :=
  decide ((a.len : Int) + gap ≤ lead % (Nat.gcd a.period b.period : Nat)) && decide ((b.len : Int) + gap ≤ (-lead) % (Nat.gcd a.period b.period : Nat))
theorem ahead_int (g x y : Nat) (hg : 0 < g) : ((ahead g x y : Nat) : Int) = ((y : Int) - x) % (g : Int) := by
  unfold ahead
  have hx : x % g < g := Nat.mod_lt _ hg
  have e : (((y % g + g - x % g : Nat)) : Int) = (y : Int) % g + g - (x : Int) % g := by omega
  rw [Int.natCast_emod, e]
  have e1 := Int.emod_add_mul_ediv (y : Int) g
  have e2 := Int.emod_add_mul_ediv (x : Int) g
  have e3 : (y : Int) % g + g - (x : Int) % g = ((y : Int) - x) + g * (1 - (y : Int) / g + (x : Int) / g) := by
    rw [Int.mul_add, Int.mul_sub, Int.mul_one]
    omega
  rw [e3, Int.add_mul_emod_self_left]
theorem apart_lead (a b : Msg) (x y gap : Nat) (ha : 1 ≤ a.period) : apart a x b y gap = apartL a b ((y : Int) - x) gap := by
  have hg : 0 < Nat.gcd a.period b.period := Nat.gcd_pos_of_pos_left _ (by omega)
  unfold apart apartL
  have e1 := ahead_int (Nat.gcd a.period b.period) x y hg
  have e2 := ahead_int (Nat.gcd a.period b.period) y x hg
  have e3 : -((y : Int) - x) = (x : Int) - y := by omega
  rw [e3, ← e1, ← e2]
  simp only [← Int.natCast_add, Int.ofNat_le]
end Sm
namespace Sm
open Vbavab
theorem bus_nat (p q : Nat) (h1 : 1 ≤ p) (h2 : p ≤ 3) (h3 : 1 ≤ q) (h4 : q ≤ 3) : ((p.testBit 0 && q.testBit 0) || (p.testBit 1 && q.testBit 1)) = decide (p &&& q ≠ 0) := by
  have e1 : p = 1 ∨ p = 2 ∨ p = 3 := by omega
  have e2 : q = 1 ∨ q = 2 ∨ q = 3 := by omega
  rcases e1 with rfl | rfl | rfl <;> rcases e2 with rfl | rfl | rfl <;> decide
def colL (a b : Msg) (lead : Int) : Bool := decide (a.buses &&& b.buses ≠ 0) && !apartL a b lead 0
theorem col_lead {a b : Msg} (x y : Nat) (ha : OkM a) (hb : OkM b) : collides a x b y = colL a b ((y : Int) - x) := by
  unfold collides colL
  rw [apart_lead a b x y 0 ha.p1]
  unfold shares onBus
  rw [bus_nat _ _ ha.b1 ha.b3 hb.b1 hb.b3]
def metL (ms : List Msg) (d : Demand) (lead : Int) : Bool := if d.kind = 0 then decide (((gm ms d.a).len : Int) + d.gap ≤ lead) else apartL (gm ms d.a) (gm ms d.b) lead d.gap
structure OkP (s : Plan) : Prop where
  m : ∀ m ∈ s.msgs, OkM m
  d : ∀ d ∈ s.demands, OkD s.msgs.length d
  n8 : s.msgs.length ≤ 8
  n16 : s.demands.length ≤ 16
theorem OkP.gm {s : Plan} (h : OkP s) {i : Nat} (hi : i < s.msgs.length) : OkM (gm s.msgs i) := h.m _ (List.mem_of_getElem? (gm_at hi))
theorem met_lead {s : Plan} (h : OkP s) {d : Demand} (hd : d ∈ s.demands) (x y : Nat) : meets s d x y = metL s.msgs d ((y : Int) - x) := by
  unfold meets metL
  have o := h.d d hd
  by_cases hk : d.kind = 0
  · rw [if_pos hk, if_pos hk]
    refine decide_eq_decide.mpr ?_
    show x + (gm s.msgs d.a).len + d.gap ≤ y ↔ _
    omega
  · rw [if_neg hk, if_neg hk]
    exact apart_lead _ _ x y d.gap (h.gm o.a).p1
def slotI : Option Nat → Int
  | some y => y
  | none => -1
def tabI (t : List (Option Nat)) : List Int := t.map slotI
theorem tabI_len (t : List (Option Nat)) : (tabI t).length = t.length := List.length_map ..
theorem tabI_at {t : List (Option Nat)} {i : Nat} (h : i < t.length) : (tabI t)[i]? = some (slotI (beginOf t i)) := by
  unfold tabI beginOf
  rw [List.getElem?_map, List.getD_eq_getElem?_getD, List.getElem?_eq_getElem h]
  rfl
theorem slotI_put (o : Option Nat) : decide (slotI o = -1) = !o.isSome := by
  cases o with
  | none => rfl
  | some y =>
    have : ¬ (slotI (some y) = -1) := by show ¬ ((y : Int) = -1); omega
    rw [decide_eq_false this]; rfl
theorem isPut_some (t : List (Option Nat)) (i : Nat) : isPut t i = (beginOf t i).isSome := by
  unfold isPut
  cases beginOf t i <;> rfl
def rowW (w : Nat × Nat × Nat) : List Int := [w.1, w.2.1, w.2.2]
def missR (t : List (Option Nat)) (n : Nat) : List (List Int) := ((List.range n).filter fun i => !isPut t i).map fun (i : Nat) => [1, (i : Int), (i : Int)]
def badPair (s : Plan) (t : List (Option Nat)) (i j : Nat) : Bool := !pairOk s t i j
def pairR1 (s : Plan) (t : List (Option Nat)) (i j : Nat) : List (List Int) := (((List.range j).map fun k => i + 1 + k).filter fun k => badPair s t i k).map fun (k : Nat) => [2, (i : Int), (k : Int)]
def pairR (s : Plan) (t : List (Option Nat)) (n i : Nat) : List (List Int) := (List.range i).flatMap fun k => pairR1 s t k (n - (k + 1))
def badDem (s : Plan) (t : List (Option Nat)) (k : Nat) : Bool := match s.demands[k]? with
  | none => false
  | some d => !demandOk s t d
def demR (s : Plan) (t : List (Option Nat)) (n : Nat) : List (List Int) := ((List.range n).filter fun k => badDem s t k).map fun (k : Nat) => [3, (k : Int), (k : Int)]
theorem missR_succ (t : List (Option Nat)) (n : Nat) : missR t (n + 1) = missR t n ++ (if isPut t n = true then [] else [[1, (n : Int), (n : Int)]]) := by
  unfold missR
  rw [List.range_succ, List.filter_append, List.map_append]
  congr 1
  cases h : isPut t n <;> simp [h]
theorem demR_succ (s : Plan) (t : List (Option Nat)) (n : Nat) : demR s t (n + 1) = demR s t n ++ (if badDem s t n = true then [[3, (n : Int), (n : Int)]] else []) := by
  unfold demR
  rw [List.range_succ, List.filter_append, List.map_append]
  congr 1
  cases h : badDem s t n <;> simp [h]
theorem pairR1_succ (s : Plan) (t : List (Option Nat)) (i j : Nat) : pairR1 s t i (j + 1) = pairR1 s t i j ++ (if badPair s t i (i + 1 + j) = true then [[2, (i : Int), ((i + 1 + j : Nat) : Int)]] else []) := by
  unfold pairR1
  rw [List.range_succ, List.map_append, List.filter_append, List.map_append]
  congr 1
  cases h : badPair s t i (i + 1 + j) <;> simp [h]
theorem pairR_succ (s : Plan) (t : List (Option Nat)) (n i : Nat) : pairR s t n (i + 1) = pairR s t n i ++ pairR1 s t i (n - (i + 1)) := by
  unfold pairR
  rw [List.range_succ, List.flatMap_append]
  simp
theorem range_above {n i : Nat} (h : i < n) : ((List.range n).filter fun j => decide (i < j)) = (List.range (n - (i + 1))).map fun k => i + 1 + k := by
  have e : n = (i + 1) + (n - (i + 1)) := by omega
  have e2 : List.range n = List.range (i + 1) ++ (List.range (n - (i + 1))).map (fun k => i + 1 + k) := by
    conv => lhs; rw [e]
    rw [List.range_add]
  rw [e2, List.filter_append]
  have h1 : (List.range (i + 1)).filter (fun j => decide (i < j)) = [] := by
    rw [List.filter_eq_nil_iff]
    intro a ha
    have := List.mem_range.mp ha
    simp; omega
  have h2 : ((List.range (n - (i + 1))).map (fun k => i + 1 + k)).filter (fun j => decide (i < j)) = (List.range (n - (i + 1))).map (fun k => i + 1 + k) := by
    rw [List.filter_eq_self]
    intro a ha
    obtain ⟨k, _, rfl⟩ := List.mem_map.mp ha
    simp; omega
  rw [h1, h2, List.nil_append]
theorem flatMap_on {α β : Type} {f g : α → List β} : ∀ {l : List α}, (∀ a ∈ l, f a = g a) → l.flatMap f = l.flatMap g
  | [], _ => rfl
  | a :: l, h => by
    rw [List.flatMap_cons, List.flatMap_cons, h a (List.mem_cons_self ..), flatMap_on fun b hb => h b (List.mem_cons_of_mem _ hb)]
theorem wrongs_rows (s : Plan) (t : List (Option Nat)) : (wrongs s t).map rowW = missR t s.msgs.length ++ pairR s t s.msgs.length s.msgs.length ++ demR s t s.demands.length := by
  unfold wrongs
  rw [List.map_append, List.map_append, List.append_assoc]
  congr 1
  · unfold missR numbers
    rw [List.map_map]; rfl
  congr 1
  · unfold pairR pairs
    rw [List.map_map, List.filter_flatMap, List.map_flatMap]
    unfold numbers
    refine flatMap_on fun i hi => ?_
    rw [range_above (List.mem_range.mp hi), List.filter_map, List.map_map]
    unfold pairR1
    rfl
  · unfold demR
    rw [List.map_map]
    rfl
theorem badPair_eq {s : Plan} (h : OkP s) (t : List (Option Nat)) {i j : Nat} (hi : i < s.msgs.length) (hj : j < s.msgs.length) :
    badPair s t i j = ((beginOf t i).isSome && (beginOf t j).isSome && colL (gm s.msgs i) (gm s.msgs j) (slotI (beginOf t j) - slotI (beginOf t i))) := by
  unfold badPair pairOk
  cases e1 : beginOf t i with
  | none => rfl
  | some x =>
    cases e2 : beginOf t j with
    | none => rfl
    | some y =>
      show (!!collides _ x _ y) = _
      rw [Bool.not_not]
      exact (col_lead x y (h.gm hi) (h.gm hj)).trans rfl
theorem badDem_eq {s : Plan} (h : OkP s) (t : List (Option Nat)) {k : Nat} {d : Demand} (e : s.demands[k]? = some d) :
    badDem s t k = ((beginOf t d.a).isSome && (beginOf t d.b).isSome && !metL s.msgs d (slotI (beginOf t d.b) - slotI (beginOf t d.a))) := by
  unfold badDem
  rw [e]
  unfold demandOk
  cases e1 : beginOf t d.a with
  | none => simp [e1]
  | some x =>
    cases e2 : beginOf t d.b with
    | none => simp [e1, e2]
    | some y =>
      simp only [e1, e2]
      rw [met_lead h (List.mem_of_getElem? e) x y]
      rfl
end Sm
set_option linter.all false
namespace Sm
open Vbavab
def betw (ds : List Demand) (e k : Nat) : List Demand := ds.filter fun d => decide ((d.a = e ∧ d.b = k) ∨ (d.a = k ∧ d.b = e))
def turned (d : Demand) (e : Nat) (lead : Int) : Int := if d.a = e then lead else -lead
def fitL (s : Plan) (e k : Nat) (lead : Int) : Bool := !colL (gm s.msgs e) (gm s.msgs k) lead && (betw s.demands e k).all fun d => metL s.msgs d (turned d e lead)
def PairBits (s : Plan) (e k : Nat) (B : Nat) : Prop := ∀ j : Nat, B.testBit j =
  (decide (((gm s.msgs k).early : Int) - (gm s.msgs e).late + 63 ≤ j ∧ (j : Int) ≤ ((gm s.msgs k).late : Int) - (gm s.msgs e).early + 63) && fitL s e k ((j : Int) - 63))
def InWin (s : Plan) (ch : List Nat) : Prop := ∀ (i x : Nat), ch[i]? = some x → (gm s.msgs i).early ≤ x ∧ x ≤ (gm s.msgs i).late
def Chain (s : Plan) (ch : List Nat) : Prop := ∀ (i x : Nat), ch[i]? = some x → fits s (ch.take i) x = true
def tabOf (ch : List Nat) : List (Option Nat) := ch.map fun y => some y
theorem beginOf_tab {ch : List Nat} {i x : Nat} (h : ch[i]? = some x) : beginOf (tabOf ch) i = some x := by
  unfold beginOf tabOf
  rw [List.getD_eq_getElem?_getD, List.getElem?_map, h]; rfl
theorem beginOf_pre {ch : List Nat} {x i : Nat} (h : i < ch.length) : beginOf (tabOf (ch ++ [x])) i = some (ch.getD i 0) := by
  refine beginOf_tab ?_
  rw [List.getElem?_append_left h, List.getD_eq_getElem?_getD, List.getElem?_eq_getElem h]; rfl
theorem beginOf_last (ch : List Nat) (x : Nat) : beginOf (tabOf (ch ++ [x])) ch.length = some x := beginOf_tab (by simp)
theorem demandOk_some {s : Plan} {t : List (Option Nat)} {d : Demand} {x y : Nat} (h1 : beginOf t d.a = some x) (h2 : beginOf t d.b = some y) : demandOk s t d = meets s d x y := by
  unfold demandOk; rw [h1, h2]
theorem chain_met {s : Plan} {ch : List Nat} (hc : Chain s ch) {d : Demand} (hd : d ∈ s.demands) (ha : d.a < ch.length) (hb : d.b < ch.length) : meets s d (ch.getD d.a 0) (ch.getD d.b 0) = true := by
  have key : ∀ i, i < ch.length → d.a ≤ i → d.b ≤ i → meets s d (ch.getD d.a 0) (ch.getD d.b 0) = true := by
    intro i hi h1 h2
    have e : ch[i]? = some ch[i] := List.getElem?_eq_getElem hi
    have f := hc i _ e
    unfold fits at f
    rw [Bool.and_eq_true] at f
    have f2 := List.all_eq_true.mp f.2 d hd
    have hl : (ch.take i).length = i := by rw [List.length_take]; omega
    have et : (ch.take i ++ [ch[i]]) = ch.take (i + 1) := by rw [List.take_add_one, e]; rfl
    rw [et, hl] at f2
    have g : ∀ j, j ≤ i → beginOf (tabOf (ch.take (i + 1))) j = some (ch.getD j 0) := fun j hj => by
      refine beginOf_tab ?_
      rw [List.getElem?_take_of_lt (by omega), List.getD_eq_getElem?_getD, List.getElem?_eq_getElem (by omega)]; rfl
    have nd : decide (i < d.a ∨ i < d.b) = false := decide_eq_false (by omega)
    rw [nd, Bool.false_or] at f2
    have q := demandOk_some (s := s) (g d.a h1) (g d.b h2)
    unfold tabOf at q
    rw [q] at f2
    exact f2
  rcases Nat.le_total d.a d.b with h | h
  · exact key d.b hb h (Nat.le_refl _)
  · exact key d.a ha (Nat.le_refl _) h
theorem fits_eq {s : Plan} (o : OkP s) {ch : List Nat} (hc : Chain s ch) (hk : ch.length < s.msgs.length) (x : Nat) :
    fits s ch x = (List.range ch.length).all fun e => fitL s e ch.length ((x : Int) - ((ch.getD e 0 : Nat) : Int)) := by
  have hp : ∀ e, e < ch.length → pairOk s (tabOf (ch ++ [x])) e ch.length = !colL (gm s.msgs e) (gm s.msgs ch.length) ((x : Int) - ((ch.getD e 0 : Nat) : Int)) := fun e he => by
    unfold pairOk
    rw [beginOf_pre he, beginOf_last]
    show (!collides _ _ _ _) = _
    exact congrArg (!·) (col_lead _ _ (o.gm (by omega)) (o.gm hk))
  have met1 : ∀ d ∈ s.demands, ∀ e, e < ch.length → d.a = e → d.b = ch.length → demandOk s (tabOf (ch ++ [x])) d = metL s.msgs d (turned d e ((x : Int) - ((ch.getD e 0 : Nat) : Int))) := fun d hd e he h1 h2 => by
    rw [demandOk_some (by rw [h1]; exact beginOf_pre he) (by rw [h2]; exact beginOf_last ch x), met_lead o hd]
    unfold turned
    rw [if_pos h1]
  have met2 : ∀ d ∈ s.demands, ∀ e, e < ch.length → d.a = ch.length → d.b = e → demandOk s (tabOf (ch ++ [x])) d = metL s.msgs d (turned d e ((x : Int) - ((ch.getD e 0 : Nat) : Int))) := fun d hd e he h1 h2 => by
    rw [demandOk_some (by rw [h1]; exact beginOf_last ch x) (by rw [h2]; exact beginOf_pre he), met_lead o hd]
    unfold turned
    rw [if_neg (by omega)]
    congr 1
    omega
  rw [Bool.eq_iff_iff]
  constructor
  · intro f
    unfold fits at f
    rw [Bool.and_eq_true] at f
    refine List.all_eq_true.mpr fun e he => ?_
    have he' : e < ch.length := List.mem_range.mp he
    unfold fitL
    rw [Bool.and_eq_true]
    refine ⟨?_, List.all_eq_true.mpr fun d hd => ?_⟩
    · rw [← hp e he']
      exact List.all_eq_true.mp f.1 e he
    · obtain ⟨hd, hq⟩ := List.mem_filter.mp hd
      have hq := of_decide_eq_true hq
      have f2 := List.all_eq_true.mp f.2 d hd
      have nd : decide (ch.length < d.a ∨ ch.length < d.b) = false := decide_eq_false (by omega)
      rw [nd, Bool.false_or] at f2
      rcases hq with ⟨h1, h2⟩ | ⟨h1, h2⟩
      · rw [← met1 d hd e he' h1 h2]; exact f2
      · rw [← met2 d hd e he' h1 h2]; exact f2
  · intro f
    have f := List.all_eq_true.mp f
    unfold fits
    rw [Bool.and_eq_true]
    refine ⟨List.all_eq_true.mpr fun e he => ?_, List.all_eq_true.mpr fun d hd => ?_⟩
    · have q := f e he
      unfold fitL at q
      rw [Bool.and_eq_true] at q
      exact (hp e (List.mem_range.mp he)).trans q.1
    · by_cases hx : ch.length < d.a ∨ ch.length < d.b
      · rw [decide_eq_true hx]; rfl
      · rw [decide_eq_false hx, Bool.false_or]
        have od := o.d d hd
        have ne := od.ne
        by_cases h1 : d.a = ch.length
        · have he : d.b < ch.length := by omega
          have q := f d.b (List.mem_range.mpr he)
          unfold fitL at q
          rw [Bool.and_eq_true] at q
          have q2 := List.all_eq_true.mp q.2 d (List.mem_filter.mpr ⟨hd, decide_eq_true (.inr ⟨h1, rfl⟩)⟩)
          exact (met2 d hd d.b he h1 rfl).trans q2
        · by_cases h2 : d.b = ch.length
          · have he : d.a < ch.length := by omega
            have q := f d.a (List.mem_range.mpr he)
            unfold fitL at q
            rw [Bool.and_eq_true] at q
            have q2 := List.all_eq_true.mp q.2 d (List.mem_filter.mpr ⟨hd, decide_eq_true (.inl ⟨rfl, h2⟩)⟩)
            exact (met1 d hd d.a he rfl h2).trans q2
          · have ha : d.a < ch.length := by omega
            have hb : d.b < ch.length := by omega
            have q := chain_met hc hd ha hb
            exact (demandOk_some (beginOf_pre ha) (beginOf_pre hb)).trans q
end Sm
namespace Sm
open Vbavab
theorem OkM.late63 {m : Msg} (h : OkM m) : m.late ≤ 63 := by have := h.fit; have := h.p2; have := h.l1; omega
theorem bit_fit {s : Plan} {e k B b x : Nat} (he : OkM (gm s.msgs e)) (pb : PairBits s e k B) (hb : (gm s.msgs e).early ≤ b ∧ b ≤ (gm s.msgs e).late) (hx : (gm s.msgs k).early ≤ x ∧ x ≤ (gm s.msgs k).late) :
    B.testBit (63 - b + x) = fitL s e k ((x : Int) - b) := by
  have h63 := he.late63
  rw [pb]
  have e1 : ((63 - b + x : Nat) : Int) - 63 = (x : Int) - b := by omega
  rw [e1, decide_eq_true (by omega), Bool.true_and]
def RoomOk (s : Plan) (ch : List Nat) (R : Nat) : Prop := ∀ x, (gm s.msgs ch.length).early ≤ x → x ≤ (gm s.msgs ch.length).late → R.testBit x = fits s ch x
def RoomTo (s : Plan) (ch : List Nat) (i R : Nat) : Prop := ∀ x, (gm s.msgs ch.length).early ≤ x → x ≤ (gm s.msgs ch.length).late → R.testBit x = (List.range i).all fun e => fitL s e ch.length ((x : Int) - ((ch.getD e 0 : Nat) : Int))
theorem room_zero (s : Plan) (ch : List Nat) : RoomTo s ch 0 (2 ^ ((gm s.msgs ch.length).late + 1) - 1) := fun x _ h2 => by
  rw [Nat.testBit_two_pow_sub_one, decide_eq_true (by omega)]; rfl
theorem room_succ {s : Plan} (o : OkP s) {ch : List Nat} (hw : InWin s ch) (hk : ch.length < s.msgs.length) {i R B b : Nat} (h : RoomTo s ch i R) (hi : ch[i]? = some b) (pb : PairBits s i ch.length B) : RoomTo s ch (i + 1) (R &&& (B >>> (63 - b))) := fun x h1 h2 => by
  have hil := (List.getElem?_eq_some_iff.mp hi).1
  rw [Nat.testBit_and, Nat.testBit_shiftRight, h x h1 h2, bit_fit (o.gm (by omega)) pb (hw i b hi) ⟨h1, h2⟩, List.range_succ, List.all_append]
  have e : ch.getD i 0 = b := by rw [List.getD_eq_getElem?_getD, hi]; rfl
  simp only [List.all_cons, List.all_nil, Bool.and_true]
  rw [e]
theorem room_done {s : Plan} (o : OkP s) {ch : List Nat} (hc : Chain s ch) (hk : ch.length < s.msgs.length) {R : Nat} (h : RoomTo s ch ch.length R) : RoomOk s ch R := fun x h1 h2 => by
  rw [h x h1 h2, fits_eq o hc hk]
structure WS where
  size : Nat
  budget : Nat
  chosen : List Nat
  looked : Nat
  rooms : List Nat
  tables : Nat
  ended : Bool
structure WOk (s : Plan) (W : WS) : Prop where
  sz : W.size ≤ s.msgs.length
  le : W.chosen.length ≤ W.size
  win : InWin s W.chosen
  chain : Chain s W.chosen
  rl : W.rooms.length = W.size
  rooms : ∀ (j R : Nat), W.rooms[j]? = some R → j ≤ W.chosen.length → RoomOk s (W.chosen.take j) R
  look : W.chosen.length < W.size → (gm s.msgs W.chosen.length).early ≤ W.looked
theorem InWin.take {s : Plan} {ch : List Nat} (h : InWin s ch) (n : Nat) : InWin s (ch.take n) := fun i x e => h i x (by
  rw [List.getElem?_take] at e
  split at e
  · exact e
  · cases e)
theorem Chain.take {s : Plan} {ch : List Nat} (h : Chain s ch) (n : Nat) : Chain s (ch.take n) := fun i x e => by
  rw [List.getElem?_take] at e
  split at e
  · rw [List.take_take, Nat.min_eq_left (by omega)]
    exact h i x e
  · cases e
theorem InWin.snoc {s : Plan} {ch : List Nat} {x : Nat} (h : InWin s ch) (h1 : (gm s.msgs ch.length).early ≤ x) (h2 : x ≤ (gm s.msgs ch.length).late) : InWin s (ch ++ [x]) := fun i y e => by
  by_cases hi : i < ch.length
  · rw [List.getElem?_append_left hi] at e
    exact h i y e
  · have hl := (List.getElem?_eq_some_iff.mp e).1
    have ei : i = ch.length := by rw [List.length_append, List.length_singleton] at hl; omega
    subst ei
    rw [List.getElem?_append_right (Nat.le_refl _), Nat.sub_self] at e
    have ey : x = y := Option.some.inj e
    subst ey
    exact ⟨h1, h2⟩
theorem Chain.snoc {s : Plan} {ch : List Nat} {x : Nat} (h : Chain s ch) (hf : fits s ch x = true) : Chain s (ch ++ [x]) := fun i y e => by
  by_cases hi : i < ch.length
  · rw [List.getElem?_append_left hi] at e
    rw [List.take_append_of_le_length (by omega)]
    exact h i y e
  · have hl := (List.getElem?_eq_some_iff.mp e).1
    have ei : i = ch.length := by rw [List.length_append, List.length_singleton] at hl; omega
    subst ei
    rw [List.getElem?_append_right (Nat.le_refl _), Nat.sub_self] at e
    have ey : x = y := Option.some.inj e
    subst ey
    rw [List.take_left]
    exact hf
def backW (W : WS) : WS := match W.chosen.getLast? with
  | none => { W with ended := true }
  | some y => { W with chosen := W.chosen.dropLast, looked := y + 1 }
def stepW (s : Plan) (W : WS) : WS :=
  if W.chosen.length = W.size then backW { W with budget := W.budget - 1, tables := W.tables + 1 }
  else if (gm s.msgs W.chosen.length).late < W.looked then backW { W with budget := W.budget - 1 }
  else if fits s W.chosen W.looked = true then { W with budget := W.budget - 1, chosen := W.chosen ++ [W.looked], looked := if W.chosen.length + 1 = W.size then W.looked else (gm s.msgs (W.chosen.length + 1)).early }
  else { W with budget := W.budget - 1, looked := W.looked + 1 }
theorem getLast?_some {l : List Nat} {y : Nat} (h : l.getLast? = some y) : l = l.dropLast ++ [y] := by
  rw [List.getLast?_eq_some_iff] at h
  obtain ⟨ys, rfl⟩ := h
  rw [List.dropLast_concat]
theorem back_ok {s : Plan} {W : WS} (h : WOk s W) (hs : W.chosen ≠ [] → 0 < W.size) : WOk s (backW W) := by
  unfold backW
  cases e : W.chosen.getLast? with
  | none => exact ⟨h.sz, h.le, h.win, h.chain, h.rl, h.rooms, h.look⟩
  | some y =>
    have ec := getLast?_some e
    have hl : W.chosen.length = W.chosen.dropLast.length + 1 := by
      have := congrArg List.length ec; rw [List.length_append, List.length_singleton] at this; exact this
    have et : W.chosen.dropLast = W.chosen.take W.chosen.dropLast.length := by
      rw [List.dropLast_eq_take, List.length_take]
      congr 1
      omega
    have hy : W.chosen[W.chosen.dropLast.length]? = some y := by
      rw [ec]; simp
    refine ⟨h.sz, ?_, ?_, ?_, h.rl, fun j R hj hle => ?_, fun _ => ?_⟩
    · have := h.le; show W.chosen.dropLast.length ≤ W.size; omega
    · show InWin s W.chosen.dropLast; rw [et]; exact h.win.take _
    · show Chain s W.chosen.dropLast; rw [et]; exact h.chain.take _
    · have hle : j ≤ W.chosen.dropLast.length := hle
      have q := h.rooms j R hj (by omega)
      show RoomOk s (W.chosen.dropLast.take j) R
      rw [et, List.take_take, Nat.min_eq_left hle]
      exact q
    · show (gm s.msgs W.chosen.dropLast.length).early ≤ y + 1
      have := (h.win _ y hy).1
      omega
theorem search_full {s : Plan} {n : Nat} {ch : List Nat} (h : n ≤ ch.length) (b x : Nat) : search s n b ch x = .table ch.reverse := by
  cases b with
  | zero => show (if n ≤ ch.length then _ else _) = _; rw [if_pos h]
  | succ b => show (if n ≤ ch.length then _ else _) = _; rw [if_pos h]
def resS (s : Plan) (W : WS) : Found := if W.ended = true then .none else search s W.size W.budget W.chosen.reverse W.looked
theorem rev_cons {l : List Nat} {y : Nat} (e : l = l.dropLast ++ [y]) : l.reverse = y :: l.dropLast.reverse := by
  conv => lhs; rw [e]
  simp
theorem search_step {s : Plan} {W : WS} (he : W.ended = false) (hf : W.chosen.length < W.size) (hb : 1 ≤ W.budget) : resS s (stepW s W) = resS s W := by
  obtain ⟨b, eb⟩ : ∃ b, W.budget = b + 1 := ⟨W.budget - 1, by omega⟩
  have hne : ¬ W.size ≤ W.chosen.reverse.length := by rw [List.length_reverse]; omega
  have hl : W.chosen.reverse.length = W.chosen.length := List.length_reverse
  have base : resS s W = if (gm s.msgs W.chosen.length).late < W.looked then (match W.chosen.reverse with
      | [] => .none
      | c :: r => search s W.size b r (c + 1))
    else if fits s W.chosen W.looked = true then search s W.size b (W.looked :: W.chosen.reverse) (gm s.msgs (W.chosen.length + 1)).early
    else search s W.size b W.chosen.reverse (W.looked + 1) := by
    unfold resS
    rw [he, if_neg Bool.false_ne_true, eb]
    show (if W.size ≤ W.chosen.reverse.length then _ else _) = _
    rw [if_neg hne, hl, List.reverse_reverse]
    rfl
  rw [base]
  unfold stepW
  rw [if_neg (by omega)]
  by_cases h1 : (gm s.msgs W.chosen.length).late < W.looked
  · rw [if_pos h1, if_pos h1]
    unfold backW
    cases e : W.chosen.getLast? with
    | none =>
      have e0 : W.chosen = [] := List.getLast?_eq_none_iff.mp e
      simp only [e0]
      rfl
    | some y =>
      have ec := getLast?_some e
      rw [rev_cons ec]
      simp only [e]
      unfold resS
      simp only [he, eb]
      rw [if_neg Bool.false_ne_true]
      rfl
  · rw [if_neg h1, if_neg h1]
    by_cases h2 : fits s W.chosen W.looked = true
    · rw [if_pos h2, if_pos h2]
      unfold resS
      simp only [he, eb]
      rw [if_neg Bool.false_ne_true, List.reverse_append]
      show search s W.size b (W.looked :: W.chosen.reverse) _ = _
      by_cases h3 : W.chosen.length + 1 = W.size
      · rw [search_full (by rw [List.length_cons, hl]; omega), search_full (by rw [List.length_cons, hl]; omega)]
      · rw [if_neg h3]
    · rw [if_neg h2, if_neg h2]
      unfold resS
      simp only [he, eb]
      rw [if_neg Bool.false_ne_true]
      rfl
end Sm
namespace Sm
open Vbavab
structure WPre (s : Plan) (W : WS) : Prop where
  sz : W.size ≤ s.msgs.length
  le : W.chosen.length ≤ W.size
  win : InWin s W.chosen
  chain : Chain s W.chosen
  rl : W.rooms.length = W.size
  rooms : ∀ (j R : Nat), W.rooms[j]? = some R → j < W.chosen.length → RoomOk s (W.chosen.take j) R
theorem WPre.full {s : Plan} {W : WS} (h : WPre s W) (hf : W.chosen.length = W.size) : WOk s W :=
  ⟨h.sz, h.le, h.win, h.chain, h.rl, fun j R hj _ => h.rooms j R hj (by
    have := (List.getElem?_eq_some_iff.mp hj).1; have := h.rl; omega), fun z => absurd z (by omega)⟩
theorem WPre.enter {s : Plan} {W : WS} (h : WPre s W) (hf : W.chosen.length < W.size) {R : Nat} (hR : RoomOk s W.chosen R) :
    WOk s { W with looked := (gm s.msgs W.chosen.length).early, rooms := W.rooms.set W.chosen.length R } := by
  refine ⟨h.sz, h.le, h.win, h.chain, by show (W.rooms.set _ _).length = _; rw [List.length_set]; exact h.rl, fun j R' hj hle => ?_, fun _ => Nat.le_refl _⟩
  have hj : (W.rooms.set W.chosen.length R)[j]? = some R' := hj
  have hle : j ≤ W.chosen.length := hle
  show RoomOk s (W.chosen.take j) R'
  by_cases e : j = W.chosen.length
  · subst e
    rw [List.getElem?_set_self (by have := h.rl; omega)] at hj
    have eR : R = R' := Option.some.inj hj
    subst eR
    rw [List.take_length]
    exact hR
  · rw [List.getElem?_set_ne (by omega)] at hj
    exact h.rooms j R' hj (by omega)
theorem WOk.snoc {s : Plan} {W : WS} (h : WOk s W) (hf : W.chosen.length < W.size) (hx : W.looked ≤ (gm s.msgs W.chosen.length).late) (hfit : fits s W.chosen W.looked = true) (b : Nat) :
    WPre s { W with budget := b, chosen := W.chosen ++ [W.looked] } := by
  refine ⟨h.sz, ?_, h.win.snoc (h.look hf) hx, h.chain.snoc hfit, h.rl, fun j R hj hle => ?_⟩
  · show (W.chosen ++ [W.looked]).length ≤ W.size
    rw [List.length_append, List.length_singleton]; omega
  · have hle : j < (W.chosen ++ [W.looked]).length := hle
    rw [List.length_append, List.length_singleton] at hle
    show RoomOk s ((W.chosen ++ [W.looked]).take j) R
    rw [List.take_append_of_le_length (by omega)]
    exact h.rooms j R hj (by omega)
theorem WOk.next {s : Plan} {W : WS} (h : WOk s W) (b : Nat) : WOk s { W with budget := b, looked := W.looked + 1 } :=
  ⟨h.sz, h.le, h.win, h.chain, h.rl, h.rooms, fun z => Nat.le_succ_of_le (h.look z)⟩
theorem WOk.pay {s : Plan} {W : WS} (h : WOk s W) (b t : Nat) : WOk s { W with budget := b, tables := t } := ⟨h.sz, h.le, h.win, h.chain, h.rl, h.rooms, h.look⟩
def resC (s : Plan) (W : WS) : Option Nat := if W.ended = true then some W.tables else countAll s W.size W.budget W.chosen.reverse W.looked W.tables
theorem countAll_full {s : Plan} {n : Nat} {ch : List Nat} (h : n ≤ ch.length) (b x y c : Nat) : countAll s n b ch x c = countAll s n b ch y c := by
  cases b with
  | zero => rfl
  | succ b =>
    show (if n ≤ ch.length then _ else _) = (if n ≤ ch.length then _ else _)
    rw [if_pos h, if_pos h]
theorem count_step {s : Plan} {W : WS} (he : W.ended = false) (hle : W.chosen.length ≤ W.size) (hb : 1 ≤ W.budget) (h0 : W.size = 0 → W.tables = 0) : resC s (stepW s W) = resC s W := by
  obtain ⟨b, eb⟩ : ∃ b, W.budget = b + 1 := ⟨W.budget - 1, by omega⟩
  have hl : W.chosen.reverse.length = W.chosen.length := List.length_reverse
  have base : resC s W = if W.size ≤ W.chosen.length then (match W.chosen.reverse with
      | [] => some 1
      | y :: r => countAll s W.size b r (y + 1) (W.tables + 1))
    else if (gm s.msgs W.chosen.length).late < W.looked then (match W.chosen.reverse with
      | [] => some W.tables
      | y :: r => countAll s W.size b r (y + 1) W.tables)
    else if fits s W.chosen W.looked = true then countAll s W.size b (W.looked :: W.chosen.reverse) (gm s.msgs (W.chosen.length + 1)).early W.tables
    else countAll s W.size b W.chosen.reverse (W.looked + 1) W.tables := by
    unfold resC
    rw [he, if_neg Bool.false_ne_true, eb]
    show (if W.size ≤ W.chosen.reverse.length then _ else _) = _
    rw [hl, List.reverse_reverse]
    rfl
  rw [base]
  unfold stepW
  by_cases hf : W.chosen.length = W.size
  · rw [if_pos hf, if_pos (by omega)]
    unfold backW
    cases e : W.chosen.getLast? with
    | none =>
      have e0 : W.chosen = [] := List.getLast?_eq_none_iff.mp e
      have z : W.size = 0 := by rw [← hf, e0]; rfl
      unfold resC
      simp only [e0, h0 z]
      rfl
    | some y =>
      have ec := getLast?_some e
      rw [rev_cons ec]
      simp only [e]
      unfold resC
      simp only [he, eb]
      rw [if_neg Bool.false_ne_true]
      rfl
  · rw [if_neg hf, if_neg (show ¬ W.size ≤ W.chosen.length by omega)]
    by_cases h1 : (gm s.msgs W.chosen.length).late < W.looked
    · rw [if_pos h1, if_pos h1]
      unfold backW
      cases e : W.chosen.getLast? with
      | none =>
        have e0 : W.chosen = [] := List.getLast?_eq_none_iff.mp e
        unfold resC
        simp only [e0]
        rfl
      | some y =>
        have ec := getLast?_some e
        rw [rev_cons ec]
        simp only [e]
        unfold resC
        simp only [he, eb]
        rw [if_neg Bool.false_ne_true]
        rfl
    · rw [if_neg h1, if_neg h1]
      by_cases h2 : fits s W.chosen W.looked = true
      · rw [if_pos h2, if_pos h2]
        unfold resC
        simp only [he, eb]
        rw [if_neg Bool.false_ne_true, List.reverse_append]
        show countAll s W.size b (W.looked :: W.chosen.reverse) _ _ = _
        by_cases h3 : W.chosen.length + 1 = W.size
        · exact countAll_full (by rw [List.length_cons, hl]; omega) _ _ _ _
        · rw [if_neg h3]
      · rw [if_neg h2, if_neg h2]
        unfold resC
        simp only [he, eb]
        rw [if_neg Bool.false_ne_true]
        rfl
end Sm
namespace Sm
open Vbavab
theorem back_same (W : WS) : (backW W).size = W.size ∧ (backW W).budget = W.budget ∧ (backW W).tables = W.tables := by
  unfold backW
  cases W.chosen.getLast? <;> exact ⟨rfl, rfl, rfl⟩
theorem step_size (s : Plan) (W : WS) : (stepW s W).size = W.size := by
  unfold stepW
  split
  · exact (back_same _).1
  split
  · exact (back_same _).1
  split <;> rfl
theorem step_budget (s : Plan) (W : WS) : (stepW s W).budget = W.budget - 1 := by
  unfold stepW
  split
  · exact (back_same _).2.1
  split
  · exact (back_same _).2.1
  split <;> rfl
theorem back_ended {W : WS} (h : W.ended = false) (he : (backW W).ended = true) : (backW W).chosen = [] := by
  unfold backW at he ⊢
  cases e : W.chosen.getLast? with
  | none => exact List.getLast?_eq_none_iff.mp e
  | some y =>
    rw [e] at he
    have he : W.ended = true := he
    rw [h] at he; cases he
theorem step_ended {s : Plan} {W : WS} (h : W.ended = false) (he : (stepW s W).ended = true) : (stepW s W).chosen = [] := by
  unfold stepW at he ⊢
  split
  · rename_i q
    rw [if_pos q] at he
    exact back_ended h he
  rename_i q
  rw [if_neg q] at he
  split
  · rename_i q2
    rw [if_pos q2] at he
    exact back_ended h he
  rename_i q2
  rw [if_neg q2] at he
  split
  · rename_i q3
    rw [if_pos q3] at he
    have he : W.ended = true := he
    rw [h] at he; cases he
  · rename_i q3
    rw [if_neg q3] at he
    have he : W.ended = true := he
    rw [h] at he; cases he
theorem step_tables0 {s : Plan} {W : WS} (hl : W.chosen.length ≤ W.size) (h0 : W.size = 0) : (stepW s W).ended = true := by
  unfold stepW
  have e0 : W.chosen = [] := List.eq_nil_of_length_eq_zero (by omega)
  rw [if_pos (by rw [e0, h0]; rfl)]
  unfold backW
  simp [e0]
end Sm
set_option linter.all false
namespace Sm
open Vbavab
theorem apartL_symm (a b : Msg) (lead : Int) (gap : Nat) : apartL a b lead gap = apartL b a (-lead) gap := by
  unfold apartL
  rw [Int.neg_neg, Nat.gcd_comm b.period a.period, Bool.and_comm]
theorem colL_symm (a b : Msg) (lead : Int) : colL a b lead = colL b a (-lead) := by
  unfold colL
  rw [apartL_symm, Nat.and_comm]
theorem mem_betw {ds : List Demand} {e k : Nat} {d : Demand} : d ∈ betw ds e k ↔ d ∈ ds ∧ ((d.a = e ∧ d.b = k) ∨ (d.a = k ∧ d.b = e)) := by
  unfold betw
  rw [List.mem_filter, decide_eq_true_eq]
theorem fitL_iff {s : Plan} {e k : Nat} {lead : Int} : fitL s e k lead = true ↔ colL (gm s.msgs e) (gm s.msgs k) lead = false ∧ ∀ d ∈ s.demands, ((d.a = e ∧ d.b = k) ∨ (d.a = k ∧ d.b = e)) → metL s.msgs d (turned d e lead) = true := by
  unfold fitL
  rw [Bool.and_eq_true, List.all_eq_true]
  constructor
  · rintro ⟨h1, h2⟩
    refine ⟨?_, fun d hd q => h2 d (mem_betw.mpr ⟨hd, q⟩)⟩
    cases z : colL (gm s.msgs e) (gm s.msgs k) lead
    · rfl
    · rw [z] at h1; cases h1
  · rintro ⟨h1, h2⟩
    exact ⟨by rw [h1]; rfl, fun d hd => h2 d (mem_betw.mp hd).1 (mem_betw.mp hd).2⟩
theorem fitL_symm {s : Plan} {e k : Nat} (ne : e ≠ k) (lead : Int) : fitL s e k lead = fitL s k e (-lead) := by
  rw [Bool.eq_iff_iff, fitL_iff, fitL_iff, colL_symm]
  constructor
  · rintro ⟨h1, h2⟩
    refine ⟨h1, fun d hd q => ?_⟩
    have z := h2 d hd q.symm
    unfold turned at z ⊢
    rcases q with ⟨q1, q2⟩ | ⟨q1, q2⟩
    · rw [if_pos q1]; rw [if_neg (by omega)] at z; exact z
    · rw [if_neg (by omega), Int.neg_neg]; rw [if_pos q1] at z; exact z
  · rintro ⟨h1, h2⟩
    refine ⟨h1, fun d hd q => ?_⟩
    have z := h2 d hd q.symm
    unfold turned at z ⊢
    rcases q with ⟨q1, q2⟩ | ⟨q1, q2⟩
    · rw [if_pos q1]; rw [if_neg (by omega), Int.neg_neg] at z; exact z
    · rw [if_neg (by omega)]; rw [if_pos q1] at z; exact z
theorem beginOf_putAt_self {t : List (Option Nat)} {i : Nat} (h : i < t.length) (o : Option Nat) : beginOf (putAt t i o) i = o := by
  unfold beginOf putAt
  rw [List.getD_eq_getElem?_getD, List.getElem?_set_self h]; rfl
theorem beginOf_putAt_ne {t : List (Option Nat)} {i j : Nat} (h : i ≠ j) (o : Option Nat) : beginOf (putAt t i o) j = beginOf t j := by
  unfold beginOf putAt
  rw [List.getD_eq_getElem?_getD, List.getElem?_set_ne h, List.getD_eq_getElem?_getD]
theorem beq_dec (a b : Nat) : Nat.beq a b = decide (a = b) := by
  rw [Bool.eq_iff_iff, decide_eq_true_eq]
  exact ⟨Nat.eq_of_beq_eq_true, fun h => h ▸ Nat.beq_refl a⟩
def roomOk (s : Plan) (t : List (Option Nat)) (i o x : Nat) : Bool := (List.range o).all fun j => decide (j = i) || !(beginOf t j).isSome || fitL s i j (slotI (beginOf t j) - (x : Int))
def roomL (s : Plan) (t : List (Option Nat)) (i o : Nat) : List Nat := ((List.range ((gm s.msgs i).late + 1)).filter fun x => decide ((gm s.msgs i).early ≤ x)).filter fun x => roomOk s t i o x
theorem roomL_succ_skip {s : Plan} {t : List (Option Nat)} {i o : Nat} (h : (decide (o = i) || !(beginOf t o).isSome) = true) : roomL s t i (o + 1) = roomL s t i o := by
  unfold roomL
  congr 1
  funext x
  unfold roomOk
  rw [List.range_succ, List.all_append]
  simp only [List.all_cons, List.all_nil, Bool.and_true]
  rw [h, Bool.true_or, Bool.and_true]
theorem roomL_succ {s : Plan} {t : List (Option Nat)} {i o : Nat} (h : (decide (o = i) || !(beginOf t o).isSome) = false) : roomL s t i (o + 1) = (roomL s t i o).filter fun (x : Nat) => fitL s i o (slotI (beginOf t o) - (x : Int)) := by
  unfold roomL
  conv => rhs; rw [List.filter_filter]
  congr 1
  funext x
  unfold roomOk
  rw [List.range_succ, List.all_append]
  simp only [List.all_cons, List.all_nil, Bool.and_true]
  rw [h, Bool.false_or, Bool.and_comm]
theorem pairOk_put {s : Plan} (o : OkP s) {t : List (Option Nat)} {i j x : Nat} (hi : i < s.msgs.length) (hj : j < s.msgs.length) (ht : t.length = s.msgs.length) (ne : i ≠ j) :
    pairOk s (putAt t i (some x)) i j = (!(beginOf t j).isSome || !colL (gm s.msgs i) (gm s.msgs j) (slotI (beginOf t j) - (x : Int))) := by
  unfold pairOk
  rw [beginOf_putAt_self (by omega), beginOf_putAt_ne ne]
  cases e : beginOf t j with
  | none => rfl
  | some y =>
    exact congrArg (!·) (col_lead x y (o.gm hi) (o.gm hj))
theorem demOk_put {s : Plan} (o : OkP s) {t : List (Option Nat)} {i j x : Nat} {d : Demand} (hd : d ∈ s.demands) (ht : t.length = s.msgs.length) (hi : i < s.msgs.length) (ne : i ≠ j) (q : (d.a = i ∧ d.b = j) ∨ (d.a = j ∧ d.b = i)) :
    demandOk s (putAt t i (some x)) d = (!(beginOf t j).isSome || metL s.msgs d (turned d i (slotI (beginOf t j) - (x : Int)))) := by
  unfold demandOk turned
  rcases q with ⟨q1, q2⟩ | ⟨q1, q2⟩
  · rw [q1, q2, beginOf_putAt_self (by omega), beginOf_putAt_ne ne, if_pos rfl]
    cases e : beginOf t j with
    | none => rfl
    | some y =>
      show meets s d x y = _
      rw [met_lead o hd]; rfl
  · rw [q1, q2, beginOf_putAt_self (by omega), beginOf_putAt_ne ne, if_neg ne.symm]
    cases e : beginOf t j with
    | none => rfl
    | some y =>
      show meets s d y x = _
      rw [met_lead o hd]
      show _ = (!true || metL s.msgs d (-((y : Int) - (x : Int))))
      rw [Int.neg_sub]; rfl
theorem roomOk_eq {s : Plan} (o : OkP s) {t : List (Option Nat)} {i : Nat} (hi : i < s.msgs.length) (ht : t.length = s.msgs.length) (x : Nat) :
    ((numbers s).all (fun j => Nat.beq i j || pairOk s (putAt t i (some x)) i j) && s.demands.all fun d => !(Nat.beq d.a i || Nat.beq d.b i) || demandOk s (putAt t i (some x)) d) = roomOk s t i s.msgs.length x := by
  rw [Bool.eq_iff_iff]
  unfold roomOk numbers
  rw [Bool.and_eq_true, List.all_eq_true, List.all_eq_true, List.all_eq_true]
  constructor
  · rintro ⟨h1, h2⟩ j hj
    have hj' := List.mem_range.mp hj
    by_cases ne : j = i
    · rw [decide_eq_true ne]; rfl
    rw [decide_eq_false ne, Bool.false_or]
    cases e : (beginOf t j).isSome with
    | false => rfl
    | true =>
      show fitL _ _ _ _ = true
      rw [fitL_iff]
      have z := h1 j hj
      rw [beq_dec, decide_eq_false (fun q => ne q.symm), Bool.false_or, pairOk_put o hi hj' ht (fun q => ne q.symm), e] at z
      refine ⟨?_, fun d hd q => ?_⟩
      · cases w : colL (gm s.msgs i) (gm s.msgs j) (slotI (beginOf t j) - (x : Int))
        · rfl
        · rw [w] at z; cases z
      · have z := h2 d hd
        rw [demOk_put o hd ht hi (fun q => ne q.symm) q, e] at z
        have w : (Nat.beq d.a i || Nat.beq d.b i) = true := by
          rw [beq_dec, beq_dec, Bool.or_eq_true, decide_eq_true_eq, decide_eq_true_eq]
          rcases q with q | q
          · exact .inl q.1
          · exact .inr q.2
        rw [w] at z
        exact z
  · intro h
    refine ⟨fun j hj => ?_, fun d hd => ?_⟩
    · have hj' := List.mem_range.mp hj
      by_cases ne : i = j
      · rw [beq_dec, decide_eq_true ne]; rfl
      rw [beq_dec, decide_eq_false ne, Bool.false_or, pairOk_put o hi hj' ht ne]
      have z := h j hj
      rw [decide_eq_false (fun q => ne q.symm), Bool.false_or] at z
      cases e : (beginOf t j).isSome with
      | false => rfl
      | true =>
        rw [e] at z
        have z : fitL _ _ _ _ = true := z
        rw [(fitL_iff.mp z).1]; rfl
    · have od := o.d d hd
      have dne := od.ne
      rw [beq_dec, beq_dec]
      by_cases qa : d.a = i
      · have z := h d.b (List.mem_range.mpr od.b)
        rw [decide_eq_true qa, Bool.true_or, demOk_put (j := d.b) o hd ht hi (by omega) (.inl ⟨qa, rfl⟩)]
        rw [decide_eq_false (by omega), Bool.false_or] at z
        cases e : (beginOf t d.b).isSome with
        | false => rfl
        | true =>
          rw [e] at z
          have z : fitL _ _ _ _ = true := z
          exact (fitL_iff.mp z).2 d hd (.inl ⟨qa, rfl⟩)
      · by_cases qb : d.b = i
        · have z := h d.a (List.mem_range.mpr od.a)
          rw [decide_eq_true qb, Bool.or_true, demOk_put (j := d.a) o hd ht hi (by omega) (.inr ⟨rfl, qb⟩)]
          rw [decide_eq_false (by omega), Bool.false_or] at z
          cases e : (beginOf t d.a).isSome with
          | false => rfl
          | true =>
            rw [e] at z
            have z : fitL _ _ _ _ = true := z
            exact (fitL_iff.mp z).2 d hd (.inr ⟨rfl, qb⟩)
        · rw [decide_eq_false qa, decide_eq_false qb]; rfl
theorem roomCall_eq {s : Plan} (o : OkP s) (ht : s.table.length = s.msgs.length) {i : Nat} (hi : i < s.msgs.length) : roomCall s (i : Nat) = (s, row (roomL s s.table i s.msgs.length)) := by
  unfold roomCall
  have e : isMsg s (i : Nat) = true := by
    unfold isMsg inR
    rw [decide_eq_true (by omega), decide_eq_true (by simp; omega)]; rfl
  rw [if_neg (by rw [e]; decide)]
  unfold roomL
  have e2 : (fun x => roomOk s s.table i s.msgs.length x) = (fun x => (numbers s).all (fun j => Nat.beq i j || pairOk s (putAt s.table i (some x)) i j) && s.demands.all fun d => !(Nat.beq d.a i || Nat.beq d.b i) || demandOk s (putAt s.table i (some x)) d) := funext fun x => (roomOk_eq o hi ht x).symm
  rw [e2]
  rfl
end Sm
set_option linter.all false
namespace Sm
open Vbavab
def slotOf (t : List (Option Nat)) (i : Nat) : Int := slotI (beginOf t i)
def FitT (s : Plan) (t : List (Option Nat)) (i j : Nat) : Prop := fitL s i j (slotOf t j - slotOf t i) = true
theorem isEmpty_append {α : Type} (a b : List α) : (a ++ b).isEmpty = (a.isEmpty && b.isEmpty) := by cases a <;> cases b <;> rfl
theorem isEmpty_map' {α β : Type} (f : α → β) (a : List α) : (a.map f).isEmpty = a.isEmpty := by cases a <;> rfl
theorem isEmpty_filter {α : Type} (p : α → Bool) (l : List α) : (l.filter p).isEmpty = true ↔ ∀ x ∈ l, p x = false := by
  rw [List.isEmpty_iff, List.filter_eq_nil_iff]
  exact ⟨fun h x hx => Bool.eq_false_iff.mpr (h x hx), fun h x hx => Bool.eq_false_iff.mp (h x hx)⟩
theorem mem_pairs {s : Plan} {i j : Nat} : (i, j) ∈ pairs s ↔ i < j ∧ j < s.msgs.length := by
  unfold pairs numbers
  rw [List.mem_flatMap]
  constructor
  · rintro ⟨a, ha, h⟩
    rw [List.mem_map] at h
    obtain ⟨b, hb, e⟩ := h
    rw [List.mem_filter, List.mem_range, decide_eq_true_eq] at hb
    injection e with e1 e2
    subst e1 e2
    exact ⟨hb.2, hb.1⟩
  · rintro ⟨h1, h2⟩
    refine ⟨i, List.mem_range.mpr (by omega), List.mem_map.mpr ⟨j, ?_, rfl⟩⟩
    rw [List.mem_filter, List.mem_range, decide_eq_true_eq]
    exact ⟨h2, h1⟩
theorem good_iff0 {s : Plan} {t : List (Option Nat)} : good s t = true ↔ (∀ i, i < s.msgs.length → isPut t i = true) ∧ (∀ i j, i < j → j < s.msgs.length → pairOk s t i j = true) ∧ ∀ d ∈ s.demands, demandOk s t d = true := by
  unfold good wrongs
  rw [isEmpty_append, isEmpty_append, isEmpty_map', isEmpty_map', isEmpty_map', Bool.and_eq_true, Bool.and_eq_true, isEmpty_filter, isEmpty_filter, isEmpty_filter]
  constructor
  · rintro ⟨h1, h2, h3⟩
    refine ⟨fun i hi => ?_, fun i j hij hj => ?_, fun d hd => ?_⟩
    · have z := h1 i (List.mem_range.mpr hi)
      cases w : isPut t i
      · rw [w] at z; cases z
      · rfl
    · have z := h2 (i, j) (mem_pairs.mpr ⟨hij, hj⟩)
      have z : (!pairOk s t i j) = false := z
      cases w : pairOk s t i j
      · rw [w] at z; cases z
      · rfl
    · obtain ⟨k, hk, e⟩ := List.mem_iff_getElem.mp hd
      have z := h3 k (List.mem_range.mpr hk)
      rw [List.getElem?_eq_getElem hk, e] at z
      have z : (!demandOk s t d) = false := z
      cases w : demandOk s t d
      · rw [w] at z; cases z
      · rfl
  · rintro ⟨h1, h2, h3⟩
    refine ⟨fun i hi => ?_, fun p hp => ?_, fun k hk => ?_⟩
    · rw [h1 i (List.mem_range.mp hi)]; rfl
    · obtain ⟨i, j⟩ := p
      obtain ⟨a, b⟩ := mem_pairs.mp hp
      show (!pairOk s t i j) = false
      rw [h2 i j a b]; rfl
    · have hk := List.mem_range.mp hk
      rw [List.getElem?_eq_getElem hk]
      show (!demandOk s t s.demands[k]) = false
      rw [h3 _ (List.getElem_mem hk)]; rfl
theorem put_some {t : List (Option Nat)} {i : Nat} (h : isPut t i = true) : ∃ x, beginOf t i = some x := by
  rw [isPut_some] at h
  exact Option.isSome_iff_exists.mp h
theorem pairOk_slots {s : Plan} (o : OkP s) {t : List (Option Nat)} {i j : Nat} (hi : i < s.msgs.length) (hj : j < s.msgs.length) (pi : isPut t i = true) (pj : isPut t j = true) : pairOk s t i j = !colL (gm s.msgs i) (gm s.msgs j) (slotOf t j - slotOf t i) := by
  obtain ⟨x, ex⟩ := put_some pi
  obtain ⟨y, ey⟩ := put_some pj
  unfold pairOk slotOf
  rw [ex, ey]
  exact congrArg (!·) (col_lead x y (o.gm hi) (o.gm hj))
theorem demandOk_slots {s : Plan} (o : OkP s) {t : List (Option Nat)} {d : Demand} (hd : d ∈ s.demands) (pi : isPut t d.a = true) (pj : isPut t d.b = true) : demandOk s t d = metL s.msgs d (slotOf t d.b - slotOf t d.a) := by
  obtain ⟨x, ex⟩ := put_some pi
  obtain ⟨y, ey⟩ := put_some pj
  unfold demandOk slotOf
  rw [ex, ey]
  exact met_lead o hd x y
theorem good_iff {s : Plan} (o : OkP s) {t : List (Option Nat)} : good s t = true ↔ (∀ i, i < s.msgs.length → isPut t i = true) ∧ ∀ i j, i < s.msgs.length → j < s.msgs.length → i ≠ j → FitT s t i j := by
  rw [good_iff0]
  constructor
  · rintro ⟨h1, h2, h3⟩
    refine ⟨h1, ?_⟩
    have key : ∀ i j, i < j → j < s.msgs.length → FitT s t i j := fun i j hij hj => by
      unfold FitT
      rw [fitL_iff]
      refine ⟨?_, fun d hd q => ?_⟩
      · have z := h2 i j hij hj
        rw [pairOk_slots o (by omega) hj (h1 i (by omega)) (h1 j hj)] at z
        cases w : colL (gm s.msgs i) (gm s.msgs j) (slotOf t j - slotOf t i)
        · rfl
        · rw [w] at z; cases z
      · have od := o.d d hd
        have z := h3 d hd
        rw [demandOk_slots o hd (h1 _ od.a) (h1 _ od.b)] at z
        unfold turned
        rcases q with ⟨q1, q2⟩ | ⟨q1, q2⟩
        · rw [if_pos q1, ← q1, ← q2]; exact z
        · rw [if_neg (by omega), Int.neg_sub, ← q1, ← q2]; exact z
    intro i j hi hj ne
    by_cases h : i < j
    · exact key i j h hj
    · have z := key j i (by omega) hi
      unfold FitT at z ⊢
      rw [fitL_symm ne, Int.neg_sub]
      exact z
  · rintro ⟨h1, h2⟩
    refine ⟨h1, fun i j hij hj => ?_, fun d hd => ?_⟩
    · have z := h2 i j (by omega) hj (by omega)
      unfold FitT at z
      rw [pairOk_slots o (by omega) hj (h1 i (by omega)) (h1 j hj), (fitL_iff.mp z).1]; rfl
    · have od := o.d d hd
      have z := h2 d.a d.b od.a od.b od.ne
      unfold FitT at z
      have z := (fitL_iff.mp z).2 d hd (.inl ⟨rfl, rfl⟩)
      unfold turned at z
      rw [if_pos rfl] at z
      rw [demandOk_slots o hd (h1 _ od.a) (h1 _ od.b)]
      exact z
def free1 (F : Nat → Nat → Bool) (left : List Nat) (i : Nat) : Bool := left.all fun o => decide (o = i) || F i o
def without (left : List Nat) (i : Nat) : List Nat := left.filter fun j => !Nat.beq j i
theorem mem_without {left : List Nat} {i j : Nat} : j ∈ without left i ↔ j ∈ left ∧ j ≠ i := by
  unfold without
  rw [List.mem_filter, beq_dec]
  constructor
  · rintro ⟨a, b⟩; exact ⟨a, fun z => by rw [decide_eq_true z] at b; cases b⟩
  · rintro ⟨a, b⟩; exact ⟨a, by rw [decide_eq_false b]; rfl⟩
theorem without_len {left : List Nat} {i : Nat} (h : i ∈ left) : (without left i).length < left.length := by
  unfold without
  rw [← List.countP_eq_length_filter]
  refine Nat.lt_of_le_of_ne List.countP_le_length fun z => ?_
  have q := (List.countP_eq_length.mp z) i h
  rw [beq_dec, decide_eq_true rfl] at q
  cases q
def greedy (F : Nat → Nat → Bool) : Nat → List Nat → Option (List Nat)
  | 0, left => if left.isEmpty = true then some [] else none
  | f + 1, left => if left.isEmpty = true then some [] else match left.find? (free1 F left) with
    | none => none
    | some i => match greedy F f (without left i) with
      | some l => some (i :: l)
      | none => none
theorem free1_sub {F : Nat → Nat → Bool} {left l2 : List Nat} {i : Nat} (h : free1 F left i = true) (hs : ∀ x ∈ l2, x ∈ left) : free1 F l2 i = true := by
  unfold free1 at h ⊢
  rw [List.all_eq_true] at h ⊢
  exact fun x hx => h x (hs x hx)
theorem greedy_has {F : Nat → Nat → Bool} : ∀ (f : Nat) (left l : List Nat), greedy F f left = some l → ∀ l2 : List Nat, l2 ≠ [] → (∀ x ∈ l2, x ∈ left) → ∃ i ∈ l2, free1 F l2 i = true
  | 0, left, l, h, l2, ne, hs => by
    unfold greedy at h
    by_cases e : left.isEmpty = true
    · rw [List.isEmpty_iff] at e
      obtain ⟨x, hx⟩ := List.exists_mem_of_ne_nil l2 ne
      have := hs x hx
      rw [e] at this
      cases this
    · rw [if_neg e] at h; cases h
  | f + 1, left, l, h, l2, ne, hs => by
    unfold greedy at h
    by_cases e : left.isEmpty = true
    · rw [List.isEmpty_iff] at e
      obtain ⟨x, hx⟩ := List.exists_mem_of_ne_nil l2 ne
      have := hs x hx
      rw [e] at this
      cases this
    · rw [if_neg e] at h
      cases q : left.find? (free1 F left) with
      | none => rw [q] at h; cases h
      | some i =>
        rw [q] at h
        have hf := List.find?_some q
        by_cases hi : i ∈ l2
        · exact ⟨i, hi, free1_sub hf hs⟩
        · have h : (match greedy F f (without left i) with
            | some l => some (i :: l)
            | none => none) = some l := h
          cases w : greedy F f (without left i) with
          | none => rw [w] at h; cases h
          | some l' => exact greedy_has f _ l' w l2 ne fun x hx => mem_without.mpr ⟨hs x hx, fun z => hi (z ▸ hx)⟩
theorem greedy_some {F : Nat → Nat → Bool} : ∀ (f : Nat) (left : List Nat), left.length ≤ f → (∀ l2 : List Nat, l2 ≠ [] → (∀ x ∈ l2, x ∈ left) → ∃ i ∈ l2, free1 F l2 i = true) → ∃ l, greedy F f left = some l
  | 0, left, hl, h => by
    have e : left = [] := List.eq_nil_of_length_eq_zero (by omega)
    subst e
    exact ⟨[], rfl⟩
  | f + 1, left, hl, h => by
    unfold greedy
    by_cases e : left.isEmpty = true
    · exact ⟨[], if_pos e⟩
    · rw [if_neg e]
      obtain ⟨i, hi, hf⟩ := h left (fun z => e (by rw [z]; rfl)) (fun _ hx => hx)
      cases q : left.find? (free1 F left) with
      | none => exact absurd hf (by rw [List.find?_eq_none] at q; exact q i hi)
      | some j =>
        have hj := List.mem_of_find?_eq_some q
        have hlt := without_len hj
        obtain ⟨l, el⟩ := greedy_some f (without left j) (by omega) fun l2 ne hs => h l2 ne fun x hx => (mem_without.mp (hs x hx)).1
        exact ⟨j :: l, by simp only [el]⟩
theorem fold_some {h : Nat → Option (List Nat)} : ∀ (left : List Nat) (l : List Nat), left.foldl (fun r i => match r with
      | some l => some l
      | none => h i) (some l) = some l
  | [], _ => rfl
  | _ :: t, l => fold_some t l
theorem fold_first {h : Nat → Option (List Nat)} : ∀ (left : List Nat), left.foldl (fun r i => match r with
      | some l => some l
      | none => h i) none = left.findSome? h
  | [] => rfl
  | a :: t => by
    rw [List.foldl_cons, List.findSome?_cons]
    cases e : h a with
    | none => exact fold_first t
    | some l => exact fold_some t l
structure OnWay (s : Plan) (S U t : List (Option Nat)) (left : List Nat) : Prop where
  len : t.length = s.msgs.length
  at_ : ∀ j, j < s.msgs.length → beginOf t j = if j ∈ left then beginOf S j else beginOf U j
  good : good s t = true
  lt : ∀ i ∈ left, i < s.msgs.length
def fitM (s : Plan) (S U : List (Option Nat)) (i o : Nat) : Bool := fitL s i o (slotOf S o - slotOf U i)
theorem way_put {s : Plan} {S U t : List (Option Nat)} {left : List Nat} (w : OnWay s S U t left) {i : Nat} (hi : i ∈ left) : ∀ j, j < s.msgs.length → beginOf (putAt t i (beginOf U i)) j = if j ∈ without left i then beginOf S j else beginOf U j := fun j hj => by
  by_cases e : i = j
  · subst e
    rw [beginOf_putAt_self (by rw [w.len]; exact hj), if_neg (fun z => (mem_without.mp z).2 rfl)]
  · rw [beginOf_putAt_ne e, w.at_ j hj]
    by_cases q : j ∈ left
    · rw [if_pos q, if_pos (mem_without.mpr ⟨q, fun z => e z.symm⟩)]
    · rw [if_neg q, if_neg (fun z => q (mem_without.mp z).1)]
theorem way_good {s : Plan} (o : OkP s) {S U t : List (Option Nat)} (gS : good s S = true) (gU : good s U = true) {left : List Nat} (w : OnWay s S U t left) {i : Nat} (hi : i ∈ left) : good s (putAt t i (beginOf U i)) = free1 (fitM s S U) left i := by
  obtain ⟨pS, fS⟩ := (good_iff o).mp gS
  obtain ⟨pU, fU⟩ := (good_iff o).mp gU
  obtain ⟨pt, ft⟩ := (good_iff o).mp w.good
  have hin := w.lt i hi
  have at2 := way_put w hi
  have sl2 : ∀ j, j < s.msgs.length → slotOf (putAt t i (beginOf U i)) j = if j ∈ without left i then slotOf S j else slotOf U j := fun j hj => by
    unfold slotOf; rw [at2 j hj]; split <;> rfl
  have slt : ∀ j, j < s.msgs.length → slotOf t j = if j ∈ left then slotOf S j else slotOf U j := fun j hj => by
    unfold slotOf; rw [w.at_ j hj]; split <;> rfl
  rw [Bool.eq_iff_iff, good_iff o]
  unfold free1
  rw [List.all_eq_true]
  constructor
  · rintro ⟨_, h2⟩ b hb
    by_cases e : b = i
    · rw [decide_eq_true e]; rfl
    rw [decide_eq_false e, Bool.false_or]
    have z := h2 i b hin (w.lt b hb) (fun q => e q.symm)
    unfold FitT at z
    rw [sl2 i hin, sl2 b (w.lt b hb), if_neg (fun z => (mem_without.mp z).2 rfl), if_pos (mem_without.mpr ⟨hb, e⟩)] at z
    exact z
  · intro h
    have key : ∀ b, b ∈ left → b ≠ i → fitL s i b (slotOf S b - slotOf U i) = true := fun b hb ne => by
      have z := h b hb
      rw [decide_eq_false ne, Bool.false_or] at z
      exact z
    refine ⟨fun j hj => ?_, fun a b ha hb ne => ?_⟩
    · rw [isPut_some, at2 j hj]
      split
      · rw [← isPut_some]; exact pS j hj
      · rw [← isPut_some]; exact pU j hj
    · unfold FitT
      rw [sl2 a ha, sl2 b hb]
      by_cases qa : a ∈ without left i
      · by_cases qb : b ∈ without left i
        · rw [if_pos qa, if_pos qb]; exact fS a b ha hb ne
        · rw [if_pos qa, if_neg qb]
          by_cases e : b = i
          · rw [fitL_symm ne, Int.neg_sub, e]
            exact key a (mem_without.mp qa).1 (fun z => ne (z.trans e.symm))
          · have z := ft a b ha hb ne
            unfold FitT at z
            rw [slt a ha, slt b hb, if_pos (mem_without.mp qa).1, if_neg (fun z => qb (mem_without.mpr ⟨z, e⟩))] at z
            exact z
      · by_cases qb : b ∈ without left i
        · rw [if_neg qa, if_pos qb]
          by_cases e : a = i
          · rw [e]
            exact key b (mem_without.mp qb).1 (fun z => ne (e.trans z.symm))
          · have z := ft a b ha hb ne
            unfold FitT at z
            rw [slt a ha, slt b hb, if_neg (fun z => qa (mem_without.mpr ⟨z, e⟩)), if_pos (mem_without.mp qb).1] at z
            exact z
        · rw [if_neg qa, if_neg qb]; exact fU a b ha hb ne
theorem order_greedy {s : Plan} (o : OkP s) {S U : List (Option Nat)} (gS : good s S = true) (gU : good s U = true) : ∀ (f : Nat) (t : List (Option Nat)) (left : List Nat), left.length ≤ f → OnWay s S U t left → orderFrom s U f t left = greedy (fitM s S U) f left
  | 0, t, left, _, _ => rfl
  | f + 1, t, left, hl, w => by
    unfold orderFrom greedy
    by_cases e : left.isEmpty = true
    · rw [if_pos e, if_pos e]
    rw [if_neg e, if_neg e]
    have hh : ∀ i ∈ left, (if good s (putAt t i (beginOf U i)) = true then (match orderFrom s U f (putAt t i (beginOf U i)) (left.filter fun j => !Nat.beq j i) with
          | some l => some (i :: l)
          | none => none) else none) = (if free1 (fitM s S U) left i = true then (match greedy (fitM s S U) f (without left i) with
          | some l => some (i :: l)
          | none => none) else none) := fun i hi => by
      rw [way_good o gS gU w hi]
      by_cases q : free1 (fitM s S U) left i = true
      · rw [if_pos q, if_pos q]
        have hlt := without_len hi
        have w2 : OnWay s S U (putAt t i (beginOf U i)) (without left i) := ⟨by unfold putAt; rw [List.length_set]; exact w.len, way_put w hi, by rw [way_good o gS gU w hi]; exact q, fun j hj => w.lt j (mem_without.mp hj).1⟩
        have := order_greedy o gS gU f _ _ (by omega) w2
        unfold without at this ⊢
        rw [this]
      · rw [if_neg q, if_neg q]
    have ef := fold_first (h := fun i => (if good s (putAt t i (beginOf U i)) = true then (match orderFrom s U f (putAt t i (beginOf U i)) (left.filter fun j => !Nat.beq j i) with
          | some l => some (i :: l)
          | none => none) else none)) left
    refine ef.trans ?_
    have first : ∀ (L : List Nat), (∀ i ∈ L, i ∈ left) → L.findSome? (fun i => (if good s (putAt t i (beginOf U i)) = true then (match orderFrom s U f (putAt t i (beginOf U i)) (left.filter fun j => !Nat.beq j i) with
          | some l => some (i :: l)
          | none => none) else none)) = L.findSome? (fun i => if free1 (fitM s S U) left i = true then (match greedy (fitM s S U) f (without left i) with
          | some l => some (i :: l)
          | none => none) else none) := fun L hL => by
      induction L with
      | nil => rfl
      | cons a L ih =>
        rw [List.findSome?_cons, List.findSome?_cons, hh a (hL a (List.mem_cons_self ..)), ih fun i hi => hL i (List.mem_cons_of_mem _ hi)]
    rw [first left fun _ h => h]
    cases q : left.find? (free1 (fitM s S U) left) with
    | none =>
      rw [List.find?_eq_none] at q
      show _ = none
      rw [List.findSome?_eq_none_iff]
      intro i hi
      rw [if_neg (q i hi)]
    | some i =>
      have hi := List.mem_of_find?_eq_some q
      have hf := List.find?_some q
      cases z : greedy (fitM s S U) f (without left i) with
      | some l =>
        refine Eq.trans ?_ (show (match greedy (fitM s S U) f (without left i) with
          | some l => some (i :: l)
          | none => none) = some (i :: l) by rw [z]).symm
        obtain ⟨_, as, bs, e1, e2⟩ := List.find?_eq_some_iff_append.mp q
        rw [e1]
        rw [e1] at z hf e2
        rw [List.findSome?_append]
        have n1 : as.findSome? (fun j => if free1 (fitM s S U) (as ++ i :: bs) j = true then (match greedy (fitM s S U) f (without (as ++ i :: bs) j) with
          | some l => some (j :: l)
          | none => none) else none) = none := by
          rw [List.findSome?_eq_none_iff]
          intro j hj
          have := e2 j hj
          rw [if_neg (by intro y; rw [y] at this; cases this)]
        rw [n1, List.findSome?_cons, if_pos hf, z]
        rfl
      | none =>
        refine Eq.trans ?_ (show (match greedy (fitM s S U) f (without left i) with
          | some l => some (i :: l)
          | none => none) = none by rw [z]).symm
        rw [List.findSome?_eq_none_iff]
        intro j hj
        by_cases fj : free1 (fitM s S U) left j = true
        · rw [if_pos fj]
          cases zj : greedy (fitM s S U) f (without left j) with
          | none => rfl
          | some l =>
            exfalso
            have hlt := without_len hi
            obtain ⟨l', el⟩ := greedy_some (F := fitM s S U) f (without left i) (by omega) fun l2 ne hs => by
              by_cases hj2 : j ∈ l2
              · exact ⟨j, hj2, free1_sub fj fun x hx => (mem_without.mp (hs x hx)).1⟩
              · exact greedy_has f _ l zj l2 ne fun x hx => mem_without.mpr ⟨(mem_without.mp (hs x hx)).1, fun z => hj2 (z ▸ hx)⟩
            rw [el] at z
            cases z
        · rw [if_neg fj]
theorem sameBegin_slot (a b : Option Nat) : sameBegin a b = decide (slotI a = slotI b) := by
  cases a <;> cases b
  · rfl
  · rename_i y
    show false = _
    rw [decide_eq_false]
    show ¬ ((-1 : Int) = (y : Int))
    omega
  · rename_i y
    show false = _
    rw [decide_eq_false]
    show ¬ ((y : Int) = -1)
    omega
  · rename_i x y
    show Nat.beq x y = _
    rw [beq_dec]
    refine decide_eq_decide.mpr ?_
    show x = y ↔ (x : Int) = (y : Int)
    omega
theorem slotI_inj {a b : Option Nat} (h : slotI a = slotI b) : a = b := by
  cases a <;> cases b
  · rfl
  · rename_i y
    have h : (-1 : Int) = (y : Int) := h
    omega
  · rename_i y
    have h : (y : Int) = (-1 : Int) := h
    omega
  · rename_i x y
    have h : (x : Int) = (y : Int) := h
    congr 1; omega
theorem mem_moved {s : Plan} {S U : List (Option Nat)} {i : Nat} : i ∈ moved s S U ↔ i < s.msgs.length ∧ slotOf S i ≠ slotOf U i := by
  unfold moved numbers slotOf
  rw [List.mem_filter, List.mem_range, sameBegin_slot]
  constructor
  · rintro ⟨a, b⟩; exact ⟨a, fun z => by rw [decide_eq_true z] at b; cases b⟩
  · rintro ⟨a, b⟩; exact ⟨a, by rw [decide_eq_false b]; rfl⟩
theorem moved_len (s : Plan) (S U : List (Option Nat)) : (moved s S U).length ≤ s.msgs.length := by
  unfold moved numbers
  exact Nat.le_trans (List.length_filter_le ..) (by rw [List.length_range]; exact Nat.le_refl _)
theorem order_all {s : Plan} (o : OkP s) {S U : List (Option Nat)} (gS : good s S = true) (gU : good s U = true) (hS : S.length = s.msgs.length) : orderFrom s U s.msgs.length S (moved s S U) = greedy (fitM s S U) s.msgs.length (moved s S U) := by
  refine order_greedy o gS gU _ _ _ (moved_len s S U) ⟨hS, fun j hj => ?_, gS, fun i hi => (mem_moved.mp hi).1⟩
  by_cases q : j ∈ moved s S U
  · rw [if_pos q]
  · rw [if_neg q]
    by_cases e : slotOf S j = slotOf U j
    · exact slotI_inj e
    · exact absurd (mem_moved.mpr ⟨hj, e⟩) q
end Sm
set_option linter.all false
namespace Sm
open Vbavab
theorem filter_one {α : Type} (p : α → Bool) (a : α) : [a].filter p = if p a = true then [a] else [] := by
  rw [List.filter_cons]; rfl
def barL (s : Plan) (S U : List (Option Nat)) (i n : Nat) : List Nat := (List.range n).filter fun o => decide (o ≠ i) && !fitM s S U i o
theorem barL_succ (s : Plan) (S U : List (Option Nat)) (i n : Nat) : barL s S U i (n + 1) = barL s S U i n ++ (if (decide (n ≠ i) && !fitM s S U i n) = true then [n] else []) := by
  unfold barL
  rw [List.range_succ, List.filter_append]
  rw [filter_one]
theorem bar_any {s : Plan} {S U : List (Option Nat)} {i : Nat} {left : List Nat} (hl : ∀ j ∈ left, j < s.msgs.length) : (!((barL s S U i s.msgs.length).any fun o => decide (o ∈ left))) = free1 (fitM s S U) left i := by
  unfold free1
  rw [Bool.eq_iff_iff, List.all_eq_true, Bool.not_eq_true']
  rw [List.any_eq_false]
  constructor
  · intro h o ho
    by_cases e : o = i
    · rw [decide_eq_true e]; rfl
    rw [decide_eq_false e, Bool.false_or]
    cases q : fitM s S U i o
    · exfalso
      refine h o ?_ (decide_eq_true ho)
      unfold barL
      rw [List.mem_filter, List.mem_range]
      exact ⟨hl o ho, by rw [q, decide_eq_true (show o ≠ i from e)]; rfl⟩
    · rfl
  · intro h o ho q
    have q := of_decide_eq_true q
    have z := h o q
    unfold barL at ho
    rw [List.mem_filter, Bool.and_eq_true, decide_eq_true_eq] at ho
    rw [decide_eq_false ho.2.1, Bool.false_or] at z
    rw [z] at ho
    cases ho.2.2
theorem moved_nodup (s : Plan) (S U : List (Option Nat)) : (moved s S U).Nodup := List.Pairwise.filter _ List.nodup_range
theorem erase_without {left : List Nat} (h : left.Nodup) (i : Nat) : left.erase i = without left i := by
  rw [List.Nodup.erase_eq_filter h]
  unfold without
  congr 1
  funext j
  rw [beq_dec]
  rfl
theorem without_nodup {left : List Nat} (h : left.Nodup) (i : Nat) : (without left i).Nodup := List.Pairwise.filter _ h
def catO (order : List Nat) (r : Option (List Nat)) : Option (List Nat) := match r with
  | none => none
  | some l => some (order ++ l)
theorem greedy_none {F : Nat → Nat → Bool} {f : Nat} {left : List Nat} (ne : left ≠ []) (h : left.find? (free1 F left) = none) : greedy F f left = none := by
  have e : ¬ left.isEmpty = true := by rw [List.isEmpty_iff]; exact ne
  cases f with
  | zero => unfold greedy; rw [if_neg e]
  | succ f => unfold greedy; rw [if_neg e, h]
theorem greedy_step {F : Nat → Nat → Bool} {f : Nat} {left order : List Nat} {i : Nat} (ne : left ≠ []) (h : left.find? (free1 F left) = some i) : catO order (greedy F (f + 1) left) = catO (order ++ [i]) (greedy F f (without left i)) := by
  have e : ¬ left.isEmpty = true := by rw [List.isEmpty_iff]; exact ne
  conv => lhs; unfold greedy
  rw [if_neg e, h]
  cases q : greedy F f (without left i) with
  | none => simp only [q]; rfl
  | some l => simp only [q]; unfold catO; simp
theorem greedy_len {F : Nat → Nat → Bool} : ∀ {f : Nat} {left l : List Nat}, greedy F f left = some l → l.length ≤ f
  | 0, left, l, h => by
    unfold greedy at h
    split at h
    · cases h; exact Nat.le_refl _
    · cases h
  | f + 1, left, l, h => by
    unfold greedy at h
    split at h
    · cases h; exact Nat.zero_le _
    · split at h
      · cases h
      · rename_i i _
        cases q : greedy F f (without left i) with
        | none => rw [q] at h; cases h
        | some l' =>
          rw [q] at h
          have h : some (i :: l') = some l := h
          injection h with h
          rw [← h, List.length_cons]
          have := greedy_len q
          omega
theorem greedy_nil (F : Nat → Nat → Bool) (f : Nat) : greedy F f [] = some [] := by cases f <;> rfl
def putOn (s : Plan) (bus n : Nat) : List Nat := (List.range n).filter fun i => (beginOf s.table i).isSome && onBus (gm s.msgs i) bus
theorem putOn_succ (s : Plan) (bus n : Nat) : putOn s bus (n + 1) = putOn s bus n ++ (if ((beginOf s.table n).isSome && onBus (gm s.msgs n) bus) = true then [n] else []) := by
  unfold putOn
  rw [List.range_succ, List.filter_append]
  rw [filter_one]
theorem mem_putOn {s : Plan} {bus n i : Nat} : i ∈ putOn s bus n ↔ i < n ∧ (∃ x, beginOf s.table i = some x) ∧ onBus (gm s.msgs i) bus = true := by
  unfold putOn
  rw [List.mem_filter, List.mem_range, Bool.and_eq_true, Option.isSome_iff_exists]
def onT (s : Plan) (time : Nat) (i : Nat) : Bool := decide (((time : Int) - slotOf s.table i) % ((gm s.msgs i).period : Int) < ((gm s.msgs i).len : Int))
theorem isOn_int {m : Msg} (h : 1 ≤ m.period) (x time : Nat) : isOn m x time = decide (((time : Int) - (x : Int)) % (m.period : Int) < (m.len : Int)) := by
  unfold isOn
  refine decide_eq_decide.mpr ?_
  rw [← ahead_int m.period x time (by omega)]
  exact Int.ofNat_lt.symm
theorem find_filter {α : Type} (p q : α → Bool) : ∀ l : List α, (l.filter p).find? q = l.find? fun x => p x && q x
  | [] => rfl
  | a :: l => by
    rw [List.filter_cons, List.find?_cons]
    cases e : p a with
    | false => simp only [Bool.false_and]; exact find_filter p q l
    | true =>
      simp only [Bool.true_and, if_true]
      rw [List.find?_cons]
      cases q a with
      | true => rfl
      | false => exact find_filter p q l
theorem find_congr {α : Type} {p q : α → Bool} : ∀ {l : List α}, (∀ x ∈ l, p x = q x) → l.find? p = l.find? q
  | [], _ => rfl
  | a :: l, h => by
    rw [List.find?_cons, List.find?_cons, h a (List.mem_cons_self ..), find_congr fun x hx => h x (List.mem_cons_of_mem _ hx)]
theorem onAt_eq {s : Plan} (o : OkP s) (bus time : Nat) : onAt s bus time = (putOn s bus s.msgs.length).find? (onT s time) := by
  unfold onAt putOn numbers
  rw [find_filter]
  refine find_congr fun i hi => ?_
  have hi := List.mem_range.mp hi
  show (onBus (gm s.msgs i) bus && _) = _
  cases e : beginOf s.table i with
  | none => simp [e]
  | some x =>
    rw [show onT s time i = isOn (gm s.msgs i) x time by
      rw [isOn_int (o.gm hi).p1]; unfold onT slotOf; rw [e]; rfl]
    show (_ && isOn (gm s.msgs i) x time) = _
    simp
def waitI (s : Plan) (time i : Nat) : Int := (slotOf s.table i - (time : Int)) % ((gm s.msgs i).period : Int)
def comeP (s : Plan) (time i : Nat) : List Int := [(time : Int) + waitI s time i, (i : Int)]
def leastW (s : Plan) (time : Nat) (l : List Nat) : Option Nat := l.foldl (fun b i => match b with
  | none => some i
  | some j => if waitI s time i < waitI s time j then some i else some j) none
theorem waits_int {s : Plan} {i x time : Nat} (h : 1 ≤ (gm s.msgs i).period) (e : beginOf s.table i = some x) : ((waits (gm s.msgs i) x time : Nat) : Int) = waitI s time i := by
  unfold waits waitI slotOf
  rw [e, ahead_int _ _ _ (by omega)]; rfl
def lw (s : Plan) (time : Nat) (b : Option Nat) (i : Nat) : Option Nat := match b with
  | none => some i
  | some j => if waitI s time i < waitI s time j then some i else some j
def nx (s : Plan) (bus time : Nat) (b : Option (Nat × Nat)) (i : Nat) : Option (Nat × Nat) := if onBus (msgOf s i) bus = false then b else match beginOf s.table i with
  | none => b
  | some x => match b with
    | none => some (i, waits (msgOf s i) x time)
    | some p => if waits (msgOf s i) x time < p.2 then some (i, waits (msgOf s i) x time) else b
theorem nextOn_rel {s : Plan} (o : OkP s) (bus time : Nat) : ∀ (l : List Nat), (∀ i ∈ l, i < s.msgs.length) → ∀ (b : Option (Nat × Nat)) (c : Option Nat),
    (b.map (fun p => (p.1, ((p.2 : Nat) : Int))) = c.map fun j => (j, waitI s time j)) →
    ((l.foldl (nx s bus time) b).map (fun p => (p.1, ((p.2 : Nat) : Int))) = ((l.filter fun i => (beginOf s.table i).isSome && onBus (gm s.msgs i) bus).foldl (lw s time) c).map fun j => (j, waitI s time j))
  | [], _, b, c, h => h
  | i :: l, hl, b, c, h => by
    have hi := hl i (List.mem_cons_self ..)
    have hl' : ∀ j ∈ l, j < s.msgs.length := fun j hj => hl j (List.mem_cons_of_mem _ hj)
    rw [List.foldl_cons, List.filter_cons]
    cases e : beginOf s.table i with
    | none =>
      simp only [Option.isSome_none, Bool.false_and, Bool.false_eq_true, if_false]
      have q : nx s bus time b i = b := by unfold nx; split; rfl; simp only [e]
      rw [q]
      exact nextOn_rel o bus time l hl' b c h
    | some x =>
      simp only [Option.isSome_some, Bool.true_and]
      cases w : onBus (gm s.msgs i) bus with
      | false =>
        simp only [Bool.false_eq_true, if_false]
        have q : nx s bus time b i = b := by unfold nx; rw [if_pos (show onBus (msgOf s i) bus = false from w)]
        rw [q]
        exact nextOn_rel o bus time l hl' b c h
      | true =>
        simp only [if_true]
        rw [List.foldl_cons]
        refine nextOn_rel o bus time l hl' _ _ ?_
        have wi := waits_int (time := time) (o.gm hi).p1 e
        have q : nx s bus time b i = (match (generalizing := false) b with
            | none => some (i, waits (gm s.msgs i) x time)
            | some p => if waits (gm s.msgs i) x time < p.2 then some (i, waits (gm s.msgs i) x time) else b) := by
          unfold nx
          rw [if_neg (by intro z; rw [show onBus (msgOf s i) bus = true from w] at z; cases z)]
          simp only [e]
          rfl
        rw [q]
        cases b with
        | none =>
          cases c with
          | none => show some (i, _) = some (i, _); rw [wi]
          | some j => cases h
        | some p =>
          cases c with
          | none => cases h
          | some j =>
            have h : (p.1, ((p.2 : Nat) : Int)) = (j, waitI s time j) := Option.some.inj h
            injection h with h1 h2
            show Option.map _ (if waits (gm s.msgs i) x time < p.2 then some (i, waits (gm s.msgs i) x time) else some p) = Option.map _ (if waitI s time i < waitI s time j then some i else some j)
            by_cases z : waits (gm s.msgs i) x time < p.2
            · rw [if_pos z, if_pos (by rw [← wi, ← h2]; exact Int.ofNat_lt.mpr z)]
              show some (i, _) = some (i, _); rw [wi]
            · rw [if_neg z, if_neg (by rw [← wi, ← h2]; exact fun y => z (Int.ofNat_lt.mp y))]
              show some (p.1, _) = some (j, _)
              rw [h1, h2]
theorem nextOn_eq {s : Plan} (o : OkP s) (bus time : Nat) : (nextOn s bus time).map (fun p => (p.1, ((p.2 : Nat) : Int))) = (leastW s time (putOn s bus s.msgs.length)).map fun j => (j, waitI s time j) :=
  nextOn_rel o bus time (numbers s) (fun i hi => List.mem_range.mp hi) none none rfl
theorem lcm_way (h p : Nat) : h / Nat.gcd h p * p = Nat.lcm h p := by
  unfold Nat.lcm
  rw [Nat.div_mul_right_comm (Nat.gcd_dvd_left h p)]
theorem roundOf_snoc (l : List Msg) (m : Msg) : roundOf (l ++ [m]) = Nat.lcm (roundOf l) m.period := by
  unfold roundOf; rw [List.foldl_append]; rfl
theorem foldl_lcm_dvd : ∀ (l : List Msg) (h : Nat), h ∣ l.foldl (fun h m => Nat.lcm h m.period) h ∧ ∀ m ∈ l, m.period ∣ l.foldl (fun h m => Nat.lcm h m.period) h
  | [], h => ⟨Nat.dvd_refl h, fun _ hm => by cases hm⟩
  | a :: l, h => by
    have z := foldl_lcm_dvd l (Nat.lcm h a.period)
    refine ⟨Nat.dvd_trans (Nat.dvd_lcm_left h a.period) z.1, fun m hm => ?_⟩
    rcases List.mem_cons.mp hm with e | hm
    · rw [e]; exact Nat.dvd_trans (Nat.dvd_lcm_right h a.period) z.1
    · exact z.2 m hm
theorem foldl_lcm_least : ∀ (l : List Msg) (h R : Nat), h ∣ R → (∀ m ∈ l, m.period ∣ R) → l.foldl (fun h m => Nat.lcm h m.period) h ∣ R
  | [], h, R, h1, _ => h1
  | a :: l, h, R, h1, h2 => foldl_lcm_least l _ R (Nat.lcm_dvd h1 (h2 a (List.mem_cons_self ..))) fun m hm => h2 m (List.mem_cons_of_mem _ hm)
theorem round_dvd {l : List Msg} {m : Msg} (h : m ∈ l) : m.period ∣ roundOf l := (foldl_lcm_dvd l 1).2 m h
theorem foldl_lcm_pos : ∀ (l : List Msg) (h : Nat), 0 < h → (∀ m ∈ l, 1 ≤ m.period) → 0 < l.foldl (fun h m => Nat.lcm h m.period) h
  | [], h, h1, _ => h1
  | a :: l, h, h1, h2 => foldl_lcm_pos l _ (Nat.lcm_pos h1 (h2 a (List.mem_cons_self ..))) fun m hm => h2 m (List.mem_cons_of_mem _ hm)
theorem round_pos {l : List Msg} (h : ∀ m ∈ l, 1 ≤ m.period) : 0 < roundOf l := foldl_lcm_pos l 1 (by omega) h
theorem foldl_lcm_le : ∀ (l : List Msg) (h : Nat), (∀ m ∈ l, m.period ≤ 64) → l.foldl (fun h m => Nat.lcm h m.period) h ≤ h * 64 ^ l.length
  | [], h, _ => by simp
  | a :: l, h, h2 => by
    have z := foldl_lcm_le l (Nat.lcm h a.period) fun m hm => h2 m (List.mem_cons_of_mem _ hm)
    have y : Nat.lcm h a.period ≤ h * 64 := by
      refine Nat.le_trans ?_ (Nat.mul_le_mul_left h (h2 a (List.mem_cons_self ..)))
      unfold Nat.lcm
      exact Nat.div_le_self _ _
    refine Nat.le_trans z ?_
    rw [List.length_cons, Nat.pow_succ, Nat.mul_comm (64 ^ l.length) 64, ← Nat.mul_assoc]
    exact Nat.mul_le_mul_right _ y
theorem round_le {l : List Msg} (h : ∀ m ∈ l, m.period ≤ 64) (h8 : l.length ≤ 8) : roundOf l ≤ 281474976710656 := by
  have z := foldl_lcm_le l 1 h
  have y : 64 ^ l.length ≤ 64 ^ 8 := Nat.pow_le_pow_right (by decide) h8
  unfold roundOf
  have e : (64 : Nat) ^ 8 = 281474976710656 := by decide
  omega
def loadL (R : Nat) (l : List Msg) : Nat := l.foldl (fun n m => n + R / m.period * m.len) 0
theorem foldl_load (c R : Nat) : ∀ (l : List Msg) (n : Nat), (∀ m ∈ l, m.period ∣ R) → l.foldl (fun n m => n + c * R / m.period * m.len) (c * n) = c * l.foldl (fun n m => n + R / m.period * m.len) n
  | [], n, _ => rfl
  | a :: l, n, h => by
    rw [List.foldl_cons, List.foldl_cons, ← foldl_load c R l _ fun m hm => h m (List.mem_cons_of_mem _ hm)]
    congr 1
    rw [Nat.mul_div_assoc c (h a (List.mem_cons_self ..)), Nat.mul_add, Nat.mul_assoc]
theorem fraction_mul {c n d : Nat} (hc : 0 < c) : fraction (c * n) (c * d) = fraction n d := by
  unfold fraction
  rw [Nat.gcd_mul_left, Nat.mul_div_mul_left _ _ hc, Nat.mul_div_mul_left _ _ hc]
theorem load_eq {s : Plan} (o : OkP s) (bus : Nat) : fraction (loadOf s bus) (roundOf s.msgs) = fraction (loadL (roundOf (busMsgs s bus)) (busMsgs s bus)) (roundOf (busMsgs s bus)) := by
  have hd : roundOf (busMsgs s bus) ∣ roundOf s.msgs := foldl_lcm_least _ 1 _ (Nat.one_dvd _) fun m hm => round_dvd (List.mem_filter.mp hm).1
  obtain ⟨c, hc⟩ := hd
  have hp : 0 < roundOf s.msgs := round_pos fun m hm => (o.m m hm).p1
  have c0 : 0 < c := by
    rcases Nat.eq_zero_or_pos c with z | z
    · rw [z, Nat.mul_zero] at hc; omega
    · exact z
  unfold loadOf
  rw [hc, Nat.mul_comm]
  have z := foldl_load c (roundOf (busMsgs s bus)) (busMsgs s bus) 0 fun m hm => round_dvd hm
  rw [Nat.mul_zero] at z
  rw [z]
  exact fraction_mul c0
theorem loadL_sum (R : Nat) (l : List Msg) : loadL R l = (l.map fun m => R / m.period * m.len).sum := by
  unfold loadL
  have key : ∀ (l : List Msg) (n : Nat), l.foldl (fun n m => n + R / m.period * m.len) n = n + (l.map fun m => R / m.period * m.len).sum := fun l => by
    induction l with
    | nil => intro n; rfl
    | cons a l ih => intro n; rw [List.foldl_cons, ih, List.map_cons, List.sum_cons]; omega
  rw [key]; omega
theorem wait_eq {a b : Msg} (h : 1 ≤ a.period) (hb : 1 ≤ b.period) (x y : Nat) : ((worstWait a x b y : Nat) : Int) = (b.period : Int) - (Nat.gcd a.period b.period : Nat) + (((y : Int) - (x : Int)) - (a.len : Int)) % ((Nat.gcd a.period b.period : Nat) : Int) := by
  have hg : 0 < Nat.gcd a.period b.period := Nat.gcd_pos_of_pos_left _ (by omega)
  have hl : Nat.gcd a.period b.period ≤ b.period := Nat.le_of_dvd (by omega) (Nat.gcd_dvd_right _ _)
  show ((ahead (Nat.gcd a.period b.period) (x + a.len) y + (b.period - Nat.gcd a.period b.period) : Nat) : Int) = _
  rw [Int.natCast_add, ahead_int _ _ _ hg, Int.natCast_sub hl, Int.natCast_add, Int.add_comm, ← Int.sub_sub]
end Sm
set_option linter.all false
namespace Sm
open Vbavab
theorem set_map_range {R k : Nat} (f : Nat → Bool) (h : k < R) : ((List.range R).map f).set k true = (List.range R).map fun t => f t || decide (t = k) := by
  refine List.ext_getElem? fun i => ?_
  by_cases hi : i < R
  · rw [List.getElem?_map, List.getElem?_range hi]
    by_cases e : k = i
    · subst e
      rw [List.getElem?_set_self (by rw [List.length_map, List.length_range]; exact hi)]
      simp
    · rw [List.getElem?_set_ne e, List.getElem?_map, List.getElem?_range hi]
      show some (f i) = some (f i || decide (i = k))
      rw [decide_eq_false (fun z => e z.symm), Bool.or_false]
  · rw [List.getElem?_eq_none (by rw [List.length_set, List.length_map, List.length_range]; omega), List.getElem?_eq_none (by rw [List.length_map, List.length_range]; omega)]
theorem rep_map_range (R : Nat) : List.replicate R false = (List.range R).map fun _ => false := by
  refine List.ext_getElem? fun i => ?_
  by_cases hi : i < R
  · rw [List.getElem?_map, List.getElem?_range hi, List.getElem?_replicate, if_pos hi]; rfl
  · rw [List.getElem?_eq_none (by rw [List.length_replicate]; omega), List.getElem?_eq_none (by rw [List.length_map, List.length_range]; omega)]
def runF (f : Nat → Bool) (b j : Nat) (t : Nat) : Bool := f t || decide (b ≤ t ∧ t < b + j)
theorem runF_zero (f : Nat → Bool) (b : Nat) : runF f b 0 = f := by
  funext t; unfold runF; rw [decide_eq_false (by omega), Bool.or_false]
theorem runF_succ (f : Nat → Bool) (b j : Nat) : (fun t => runF f b j t || decide (t = b + j)) = runF f b (j + 1) := by
  funext t
  unfold runF
  rw [Bool.or_assoc]
  congr 1
  rw [Bool.eq_iff_iff, Bool.or_eq_true, decide_eq_true_eq, decide_eq_true_eq, decide_eq_true_eq]
  omega
def marks (x p len c t : Nat) : Bool := (List.range c).any fun k => decide (x + k * p ≤ t ∧ t < x + k * p + len)
def markF (f : Nat → Bool) (x p len c : Nat) (t : Nat) : Bool := f t || marks x p len c t
theorem markF_zero (f : Nat → Bool) (x p len : Nat) : markF f x p len 0 = f := by
  funext t; unfold markF marks; simp
theorem markF_succ (f : Nat → Bool) (x p len c : Nat) : runF (markF f x p len c) (x + c * p) len = markF f x p len (c + 1) := by
  funext t
  unfold runF markF marks
  rw [List.range_succ, List.any_append, Bool.or_assoc]
  simp only [List.any_cons, List.any_nil, Bool.or_false]
theorem marks_on {x p len M t : Nat} (hp : 1 ≤ p) (hx : x + len ≤ p) (ht : t < M * p) : marks x p len M t = decide (((t : Int) - (x : Int)) % (p : Int) < (len : Int)) := by
  unfold marks
  rw [Bool.eq_iff_iff, List.any_eq_true, decide_eq_true_eq]
  constructor
  · rintro ⟨k, hk, h⟩
    have h := of_decide_eq_true h
    have e : (t : Int) - (x : Int) = ((t - x - k * p : Nat) : Int) + (p : Int) * (k : Int) := by
      have : ((t - x - k * p : Nat) : Int) = (t : Int) - x - (k * p : Nat) := by omega
      rw [this, Int.natCast_mul, Int.mul_comm (p : Int)]; omega
    rw [e, Int.add_mul_emod_self_left]
    rw [Int.emod_eq_of_lt (by omega) (by omega)]
    omega
  · intro h
    have e := Int.emod_add_mul_ediv ((t : Int) - x) p
    have h0 : 0 ≤ ((t : Int) - x) % p := Int.emod_nonneg _ (by omega)
    generalize ((t : Int) - x) % p = r at e h h0
    generalize ((t : Int) - x) / p = q at e
    have q0 : 0 ≤ q := by
      rcases Int.lt_or_le q 0 with z | z
      · exfalso
        have y : (p : Int) * q ≤ (p : Int) * (-1) := Int.mul_le_mul_of_nonneg_left (by omega) (by omega)
        rw [Int.mul_neg, Int.mul_one] at y
        omega
      · exact z
    obtain ⟨k, rfl⟩ : ∃ k : Nat, q = (k : Nat) := ⟨q.toNat, by omega⟩
    have ek : (p : Int) * (k : Int) = ((k * p : Nat) : Int) := by rw [Int.natCast_mul, Int.mul_comm]
    rw [ek] at e
    refine ⟨k, List.mem_range.mpr ?_, decide_eq_true ?_⟩
    · have : k * p < M * p := by omega
      exact Nat.lt_of_mul_lt_mul_right this
    · omega
def takenF (s : Plan) (l : List Nat) (t : Nat) : Bool := l.any (onT s t)
theorem map_range_congr {R : Nat} {f g : Nat → Bool} (h : ∀ t, t < R → f t = g t) : (List.range R).map f = (List.range R).map g := List.map_congr_left fun t ht => h t (List.mem_range.mp ht)
theorem taken_succ {s : Plan} (o : OkP s) {l : List Nat} {i x : Nat} (hi : i < s.msgs.length) (e : beginOf s.table i = some x) (hx : x ≤ (gm s.msgs i).late) :
    (List.range (roundOf s.msgs)).map (markF (takenF s l) x (gm s.msgs i).period (gm s.msgs i).len (roundOf s.msgs / (gm s.msgs i).period)) = (List.range (roundOf s.msgs)).map (takenF s (l ++ [i])) := by
  refine map_range_congr fun t ht => ?_
  have om := o.gm hi
  have hd : (gm s.msgs i).period ∣ roundOf s.msgs := round_dvd (List.mem_of_getElem? (gm_at hi))
  unfold markF takenF
  rw [List.any_append, marks_on om.p1 (by have := om.fit; omega) (by rw [Nat.div_mul_cancel hd]; exact ht)]
  congr 1
  simp only [List.any_cons, List.any_nil, Bool.or_false]
  unfold onT slotOf
  rw [e]
  rfl
theorem isFree_eq {s : Plan} (o : OkP s) (bus t : Nat) : isFree s bus t = !takenF s (putOn s bus s.msgs.length) t := by
  unfold isFree takenF
  rw [onAt_eq o]
  cases e : (putOn s bus s.msgs.length).find? (onT s t) with
  | none =>
    rw [List.find?_eq_none] at e
    show true = _
    have : (putOn s bus s.msgs.length).any (onT s t) = false := List.any_eq_false.mpr e
    rw [this]; rfl
  | some i =>
    have : (putOn s bus s.msgs.length).any (onT s t) = true := List.any_eq_true.mpr ⟨i, List.mem_of_find?_eq_some e, List.find?_some e⟩
    show false = _
    rw [this]; rfl
theorem taken_period {s : Plan} {l : List Nat} (hl : ∀ i ∈ l, i < s.msgs.length) (t : Nat) : takenF s l (roundOf s.msgs + t) = takenF s l t := by
  unfold takenF
  rw [Bool.eq_iff_iff, List.any_eq_true, List.any_eq_true]
  have key : ∀ i ∈ l, onT s (roundOf s.msgs + t) i = onT s t i := fun i hi => by
    obtain ⟨c, hc⟩ : (gm s.msgs i).period ∣ roundOf s.msgs := round_dvd (List.mem_of_getElem? (gm_at (hl i hi)))
    unfold onT
    have e : (((roundOf s.msgs + t : Nat)) : Int) - slotOf s.table i = ((t : Int) - slotOf s.table i) + ((gm s.msgs i).period : Int) * (c : Int) := by
      rw [Int.natCast_add, hc, Int.natCast_mul]; omega
    rw [e, Int.add_mul_emod_self_left]
  exact ⟨fun ⟨i, hi, h⟩ => ⟨i, hi, (key i hi) ▸ h⟩, fun ⟨i, hi, h⟩ => ⟨i, hi, (key i hi).symm ▸ h⟩⟩
def rfs (p : Nat × Nat) (tk : Bool) : Nat × Nat := if tk = true then (0, p.2) else (p.1 + 1, max p.2 (p.1 + 1))
def rf (l : List Bool) (p : Nat × Nat) : Nat × Nat := l.foldl rfs p
theorem rf_append (a b : List Bool) (p : Nat × Nat) : rf (a ++ b) p = rf b (rf a p) := List.foldl_append
theorem rf_m : ∀ (l : List Bool) (c m : Nat), rf l (c, m) = ((rf l (c, 0)).1, max m (rf l (c, 0)).2)
  | [], c, m => by show (c, m) = (c, max m 0); rw [Nat.max_zero]
  | true :: l, c, m => by
    show rf l (0, m) = ((rf l (0, 0)).1, max m (rf l (0, 0)).2)
    exact rf_m l 0 m
  | false :: l, c, m => by
    show rf l (c + 1, max m (c + 1)) = ((rf l (c + 1, max 0 (c + 1))).1, max m (rf l (c + 1, max 0 (c + 1))).2)
    rw [rf_m l (c + 1) (max m (c + 1)), rf_m l (c + 1) (max 0 (c + 1))]
    show (_, _) = (_, _)
    congr 1
    show max (max m (c + 1)) _ = max m (max (max 0 (c + 1)) _)
    omega
theorem rf_le : ∀ (l : List Bool) (c m : Nat), (rf l (c, m)).2 ≤ max m (c + l.length)
  | [], c, m => by show m ≤ max m (c + 0); omega
  | true :: l, c, m => by
    have := rf_le l 0 m
    show (rf l (0, m)).2 ≤ max m (c + (l.length + 1))
    omega
  | false :: l, c, m => by
    have := rf_le l (c + 1) (max m (c + 1))
    show (rf l (c + 1, max m (c + 1))).2 ≤ max m (c + (l.length + 1))
    omega
theorem rf_false : ∀ (l : List Bool) (c m : Nat), (∀ b ∈ l, b = false) → c ≤ m → rf l (c, m) = (c + l.length, max m (c + l.length))
  | [], c, m, _, h => by show (c, m) = (c + 0, max m (c + 0)); congr 1; omega
  | a :: l, c, m, hl, h => by
    have e : a = false := hl a (List.mem_cons_self ..)
    subst e
    show rf l (c + 1, max m (c + 1)) = (c + (l.length + 1), max m (c + (l.length + 1)))
    rw [rf_false l (c + 1) (max m (c + 1)) (fun b hb => hl b (List.mem_cons_of_mem _ hb)) (by omega)]
    congr 1 <;> omega
theorem rf_inv : ∀ (l : List Bool) (c m : Nat), c ≤ m → (rf l (c, m)).1 ≤ (rf l (c, m)).2
  | [], c, m, h => h
  | true :: l, c, m, h => rf_inv l 0 m (Nat.zero_le _)
  | false :: l, c, m, h => rf_inv l (c + 1) (max m (c + 1)) (by omega)
theorem rf_turn {B C C' : List Bool} (hB : ∀ b ∈ B, b = false) (hC : C = true :: C') : min (B.length + C.length) (rf ((B ++ C) ++ (B ++ C)) (0, 0)).2 = (rf (C ++ B) (0, 0)).2 := by
  have reset : ∀ c m, rf C (c, m) = rf C (0, m) := fun c m => by rw [hC]; rfl
  have inv := rf_inv C 0 0 (Nat.le_refl _)
  have le := rf_le C 0 0
  have e0 := rf_false B 0 0 hB (Nat.le_refl _)
  have e1 : ∀ c m, rf C (c, m) = ((rf C (0, 0)).1, max m (rf C (0, 0)).2) := fun c m => (reset c m).trans (rf_m C 0 m)
  rw [rf_append, rf_append, rf_append, rf_append, e0, e1]
  have e4 : rf B (rf C (0, 0)) = _ := rf_false B (rf C (0, 0)).1 (rf C (0, 0)).2 hB inv
  rw [e4]
  generalize rf C (0, 0) = r at inv le e1 ⊢
  rw [e1 (0 + B.length), rf_false B r.1 _ hB (by omega)]
  show min (B.length + C.length) (max (max (max (max 0 (0 + B.length)) r.2) (r.1 + B.length)) r.2) = max r.2 (r.1 + B.length)
  omega
theorem longest_eq {s : Plan} (o : OkP s) (bus : Nat) : longestRun s bus = min (roundOf s.msgs) (rf (((List.range (roundOf s.msgs)).map (takenF s (putOn s bus s.msgs.length))) ++ ((List.range (roundOf s.msgs)).map (takenF s (putOn s bus s.msgs.length)))) (0, 0)).2 := by
  unfold longestRun
  show min (roundOf s.msgs) _ = _
  congr 2
  rw [Nat.two_mul, List.range_add, List.foldl_append, rf_append]
  have e : ∀ (l : List Nat) (p : Nat × Nat), l.foldl (fun (p : Nat × Nat) t => if isFree s bus t = true then (p.1 + 1, max p.2 (p.1 + 1)) else (0, p.2)) p = rf (l.map (takenF s (putOn s bus s.msgs.length))) p := fun l p => by
    unfold rf
    rw [List.foldl_map]
    congr 1
    funext p t
    unfold rfs
    rw [isFree_eq o]
    cases takenF s (putOn s bus s.msgs.length) t <;> rfl
  rw [e, e]
  congr 1
  rw [List.map_map]
  refine List.map_congr_left fun t _ => ?_
  exact taken_period (fun i hi => (mem_putOn.mp hi).1) t
theorem freeSlots_eq {s : Plan} (o : OkP s) (bus : Nat) : freeSlots s bus = ((List.range (roundOf s.msgs)).map (takenF s (putOn s bus s.msgs.length))).count false := by
  unfold freeSlots
  rw [← List.countP_eq_length_filter, List.count_eq_countP, List.countP_map]
  congr 1
  funext t
  rw [isFree_eq o]
  show _ = (takenF s _ t == false)
  cases takenF s (putOn s bus s.msgs.length) t <;> rfl
theorem run_all {l : List Bool} (h : true ∉ l) : min l.length (rf (l ++ l) (0, 0)).2 = l.length := by
  have hl : ∀ b ∈ l ++ l, b = false := fun b hb => by
    cases b
    · rfl
    · exact absurd (by rcases List.mem_append.mp hb with z | z <;> exact z) h
  rw [rf_false _ 0 0 hl (Nat.le_refl _)]
  show min l.length (max 0 (0 + (l ++ l).length)) = _
  rw [List.length_append]
  omega
theorem run_turn {l : List Bool} (h : true ∈ l) : ∃ n, n < l.length ∧ l[n]? = some true ∧ (∀ (m : Nat) (b : Bool), m < n → l[m]? = some b → b = false) ∧ min l.length (rf (l ++ l) (0, 0)).2 = (rf (l.drop n ++ l.take n) (0, 0)).2 := by
  obtain ⟨B, C', e, hB⟩ := List.eq_append_cons_of_mem h
  have hB' : ∀ b ∈ B, b = false := fun b hb => by
    cases b
    · rfl
    · exact absurd hb hB
  refine ⟨B.length, ?_, ?_, fun m b hm hb => ?_, ?_⟩
  · rw [e, List.length_append, List.length_cons]; omega
  · rw [e]; simp
  · rw [e, List.getElem?_append_left hm] at hb
    exact hB' b (List.mem_of_getElem? hb)
  · rw [e, List.drop_left, List.take_left, List.length_append]
    exact rf_turn hB' rfl
end Sm
set_option Elab.async false
set_option linter.all false
set_option maxRecDepth 100000
set_option maxHeartbeats 2000000
namespace L2
open PySem PySem.Spec PyProof.Rows
theorem list_extend_tupG (l : Addr) (items : Array Value) (n : Nat) (b : Addr) (items2 : Array Value) (n2 : Nat) (dd : Option Addr) (sl : Array (Option Value)) (hs0 : ¬(!items.isEmpty && Builtin.List.listTooLong (items.size + items2.size)) = true) (hs1 : items.size ≤ sizeLine) (hs2 : items.size + items2.size ≤ sizeLine + 1) :
    Meets (Builtin.«list.extend» ⟨[.ref l, .ref b], []⟩) (fun _ R s => s.heap.get? l = some { cls := .type "list", dict := none, data := .seq items n, slots := #[] } ∧ s.heap.get? b = some { cls := .type "tuple", dict := dd, data := .seq items2 n2, slots := sl } ∧ R (.ok (.ret Value.none)) { s with heap := s.heap.update l (Obj.mapSeq fun x => x ++ items2), toks := s.toks }) :=
  .of_wp fun prog w A R s hyp => by
    obtain ⟨heap0, gens0, dr0, tk0, os0⟩ := s
    obtain ⟨getl, getb, fin⟩ := hyp
    have k1 := AutoSeq1.idx_int
    have k2 := AutoSeq1.sub_tuple_tuple
    have k3 := AutoSeq1.sub_list_list
    have k4 := AutoSeq1.sub_tuple_list
    have k5 := AutoSeq1.sub_list_tuple
    have big : (items ++ items2).size ≤ sizeLine + 1 := by
      rw [Array.size_append]
      exact hs2
    wp_walk using (wpAny_updateSeq getl rfl (hz := hs1) (_hz' := big)), AutoSeq1.wpAny_loadPart' getl, AutoSeq1.wpAny_loadPart' getb
    exact ⟨_, rfl, fin⟩
section
variable {X : Cx}
def rInD (K : PySem.W.Frag) : R2 := fun x y H Q => ∃ ds d, Dp K H y (.tuple ds) ∧ Dp K H x d ∧ PyData.canLayAll0 ds = true ∧ d.canLay0 = true ∧ min (PyData.depthAll ds) d.depth ≤ 60 ∧ Q (.bl (ds.any fun z => PyData.eqv z d)) H
theorem op_inD (hu : X.A.units + 64 < cLine) : OpR X (compareOp .In) (rInD X.K) := by
  intro pins s σ H x y v u Q I rx ry h
  obtain ⟨ds, d, hy, hx, c1, c2, hm, q⟩ := h
  obtain ⟨as, r1⟩ := Dp.reads I _ y u hy ry
  obtain ⟨bs, r2⟩ := Dp.reads I d x v hx rx
  exact SeqAt.in_tuple_reads r1 r2 c1 c2 (by omega) ⟨.bl _, H, I, rfl, q⟩
def rExtendT (K : PySem.W.Frag) : V → List V → Hp → VK → Prop := fun x vs H Q => ∃ l b xs zs, x = .ref l ∧ vs = [.ref b] ∧ H l = some (.lst xs) ∧ H b = some (.tup zs) ∧ xs.length + zs.length ≤ sizeLine ∧ Q .non (upd H l (.lst (xs ++ zs)))
theorem mt_extendT : MtM X "list.extend" (rExtendT X.K) := by
  intro pins s σ H x vs v us Q I rx rv h
  obtain ⟨l, b, xs, zs, rfl, rfl, hH, hB, hz, q⟩ := h
  cases rx
  obtain ⟨u, rfl, ru⟩ := rv.one
  cases ru
  obtain ⟨z, its, n, r, hl, e⟩ := I.lstM hH
  obtain ⟨z2, its2, r2, ⟨cls2, dd2, data2, sl2⟩, e2, hc2, n2, hd2⟩ := I.hok b _ hB
  simp only at hc2 hd2
  subst hc2 hd2
  have hsz : its.toArray.size + its2.toArray.size ≤ sizeLine := by have := r2.length; rw [List.size_toArray, List.size_toArray]; omega
  have hlong : ¬ (!its.toArray.isEmpty && Builtin.List.listTooLong (its.toArray.size + its2.toArray.size)) = true := by
    rw [notLongL hsz, Bool.and_false]
    exact Bool.false_ne_true
  refine call_meets F.slot_list_extend ⟨_, e, rfl⟩ F.entry_list_extend (F.args_list_extend_2 _ _)
    (list_extend_tupG l its.toArray n b its2.toArray n2 dd2 sl2 hlong (by rw [List.size_toArray]; omega) (by omega)) ⟨e, e2, ?_⟩
  refine ⟨.non, _, I.lset (its' := its ++ its2) hH e (by simp) (r.append r2) ?_, rfl, q⟩
  rw [List.length_append]
  omega
def tCallV (K : PySem.W.Frag) (P : Program) (w : World) (mg : Str → Option Value) (base : Heap) (k i : Nat) (t : TA) : TE := fun σ H Q => ∃ f fd ps sp, σ[i]? = some (some (.ref f)) ∧ FnOk P w K mg base CX0 k f fd ps sp ∧ PySem.W.keepIn K (.ref f) = true ∧ Binds K fd ps [] ∧
  t σ H fun vs H1 => sp vs H1 Q E0
theorem pe_callV {k : Nat} (i : Nat) {x : Str} {p pos : Pos} {e : Expr} {es : List Expr} {t : TA} (hr : Room k X.A) (ha : PA X (e :: es) t) (hN : X.N[i]? = some x := by rfl) (hk : X.env.scope.names.lookup x = some .local := by rfl)
    (hdb : (x == ("__debug__" : Str)) = false := by decide) (he : starEach (e :: es) X.env = (false, eval e X.env) :: starEach es X.env := by rfl) (hpl : (backTo pos (starEach es X.env)).any (·.1) = false := by rfl) :
    PE X (.Call (.Name x p) (e :: es) [] pos) (tCallV X.K X.prog X.w X.mg X.base k i t) := by
  intro pins s σ H Q I h
  obtain ⟨f, fd, ps, sp, e1, F, hkp, hb, h⟩ := h
  obtain ⟨m, hn, hl⟩ := I.loc
  obtain ⟨u, r, l⟩ := hl i x _ hN e1 (.inl hk)
  obtain rfl : u = Value.ref f := r
  have lk : wpAny (model X.prog X.w) X.A (eval (.Name x p) X.env) (fun v s1 => v = .ref f ∧ s1 = s) X.xe s := by
    rcases l with ⟨hk', hm⟩ | ⟨hk', _⟩
    · exact wpAny_Name (wpAny_loadName_local I.ok.kind hk' hn hm ⟨rfl, rfl⟩) hdb
    · have z : X.env.scope.names.lookup x = some .cell ∨ X.env.scope.names.lookup x = some .free := hk'
      rw [hk] at z
      rcases z with z | z <;> cases z
  refine wpAny_Call_Name_kw (thn lk fun v s1 ⟨e2, e3⟩ => ?_)
  subst e2 e3
  refine PySem.W.callWith_K (h₀ := X.base) I.ok.mod.kin hkp (thn (ha pos pins s1 σ H _ I h) fun us s1 ⟨vs, H1, I1, r, q⟩ => ⟨I1.kIn, ?_⟩) he hpl
  exact run_fn F hr hb (dvs := []) .nil pass0 I1 r (by rw [List.append_nil]; exact q)
end
end L2
set_option Elab.async false
set_option linter.all false
set_option maxRecDepth 100000
set_option maxHeartbeats 2000000
namespace L2
open PySem PySem.Spec PyProof.Rows
section
variable {prog : Program} {w : World} {A : Around} {E : Value → Shared → Prop} {s : Shared}
theorem nextOf_tupI {it t : Addr} {i : Nat} {items : Array Value} {x : Value} {Q : Value → Shared → Prop} (qi : s.heap.IsTupleIter it t i) (qt : s.heap.IsTuple t items) (qx : items[i]? = some x)
    (fin : ∀ h', h'.IsTupleIter it t (i + 1) → Heap.SameBut it s.heap h' → Q x { s with heap := h' }) : wpAny (model prog w) A (Builtin.SmallTypes.nextOf (.ref it)) Q E s := by
  obtain ⟨oi, e1, c1, d1⟩ := id qi
  obtain ⟨ot, e2, _, nt, d2⟩ := qt
  unfold Builtin.SmallTypes.nextOf
  refine wpAny_bind (wpAny_callSpecial?_slot (name := Str.ofString "__next__") qi.typeIs F.slot_tuple_iterator_next (wpAny_call_entry F.slot_tuple_iterator_next qi.typeIs F.entry_tuple_iterator_next ?_ (F.args_tuple_iterator_next_1 _)))
  show wpAny _ _ (field (.ref it) 0 >>= _) _ _ s
  refine wpAny_bind (wpAny_field e1 d1 (x := .ref t) rfl ?_)
  show wpAny _ _ (if (Value.ref t == Value.none) = true then _ else _) _ _ s
  rw [if_neg (show ¬ ((Value.ref t == Value.none) = true) from Bool.false_ne_true)]
  show wpAny _ _ (field (.ref it) 1 >>= _) _ _ s
  refine wpAny_bind (wpAny_field e1 d1 (x := .int i 0) rfl ?_)
  show wpAny _ _ (seqItems? (.ref t) >>= _) _ _ s
  refine wpAny_bind (wpAny_seqItems e2 d2 ?_)
  simp only [Int.toNat_natCast, qx]
  refine wpAny_bind (wpAny_setField e1 d1 (by simp) (wpAny_pure ⟨x, rfl, wpAny_pure (fin _ ?_ (Heap.SameBut.update ..))⟩))
  exact ⟨_, Heap.get?_update_self _ e1 (Obj.isFreed_of_fields (Obj.data_mapFields d1 _)), (Obj.cls_mapFields ..).trans c1, by rw [Obj.data_mapFields d1]; simp [rawInt]⟩
theorem tupIter_at {h h' : Heap} {a t : Addr} {i : Nat} (x : h.IsTupleIter a t i) (k : ∀ o, h.get? a = some o → h'.get? a = some o) : h'.IsTupleIter a t i := let ⟨o, ho, r⟩ := x; ⟨o, k o ho, r⟩
theorem zipT_item {z TI TO i1 i2 l1 l2 : Addr} {k1 k2 : Nat} {xs ys : Array Value} {x y a b : Value} {Q : Value → Shared → Prop} (D : ZipApart z TI TO i1 i2 l1 l2)
    (qz : IsZip s.heap z TI TO .none) (qI : IsPair s.heap TI (.ref i1) (.ref i2)) (qO : IsPair s.heap TO a b)
    (q1 : s.heap.IsListIter i1 l1 k1) (q2 : s.heap.IsTupleIter i2 l2 k2) (ql1 : s.heap.IsList l1 xs) (ql2 : s.heap.IsTuple l2 ys) (qx : xs[k1]? = some x) (qy : ys[k2]? = some y)
    (fin : ∀ h', IsZip h' z TI TO (rawInt s.heap.objs.size) → IsPair h' TO x y → h'.IsListIter i1 l1 (k1 + 1) → h'.IsTupleIter i2 l2 (k2 + 1) → IsPair h' s.heap.objs.size x y → h'.objs.size = s.heap.objs.size + 1 →
      (∀ c o, c ≠ z → c ≠ TO → c ≠ i1 → c ≠ i2 → s.heap.get? c = some o → h'.get? c = some o) → Q (.ref s.heap.objs.size) { s with heap := h' }) :
    wpAny (model prog w) A (Builtin.«zip.__next__» ⟨[.ref z], []⟩) (fun fin s' => ∃ v, fin = .done (.ret v) ∧ Q v s') E s := by
  show wpAny _ _ (field (.ref z) 2 >>= _) _ _ _
  refine wpAny_bind (wpAny_field qz rfl (x := .bool false) rfl ?_)
  show wpAny _ _ (field (.ref z) 3 >>= _) _ _ _
  refine wpAny_bind (wpAny_field qz rfl (x := .ref TI) rfl ?_)
  refine wpAny_bind (wpAny_seqItems qI rfl ?_)
  show wpAny _ _ (Builtin.SmallTypes.ownedTupleIsFree (.ref z) >>= _) _ _ _
  refine wpAny_bind ?_
  unfold Builtin.SmallTypes.ownedTupleIsFree
  refine wpAny_bind (wpAny_field qz rfl (x := .none) rfl (wpAny_pure ?_))
  simp only [if_true]
  refine wpAny_bind (wpAny_rule ?_)
  refine wpAny_bind (wpAny_field qz rfl (x := .ref TO) rfl ?_)
  refine wpAny_bind (wpAny_setField_rec qz (by simp) fun g1 z1 c1 => ?_)
  replace z1 : IsZip g1 z TI TO .ellipsis := z1
  refine wpAny_bind ?_
  simp only [List.zipIdx_cons, List.zipIdx_nil, List.forIn_cons, List.forIn_nil]
  refine wpAny_bind (wpAny_bind (wpAny_onRaise ?_))
  show wpAny _ _ (Builtin.SmallTypes.nextOf (.ref i1) >>= _) _ _ _
  refine wpAny_bind (wpAny_nextOf_list_item (q1.extBut c1.extBut D.i1z) (ql1.extBut c1.extBut D.l1z) qx fun g2 it1 c2 => wpAny_pure ?_)
  have qO2 : IsPair g2 TO a b := c2.extBut _ _ D.TOi1 (c1.extBut _ _ D.TOz qO)
  refine wpAny_bind (wpAny_seqItems qO2 rfl ?_)
  refine wpAny_bind (wpAny_updateSeq_pair qO2 fun g3 qO3 c3 => ?_)
  replace qO3 : IsPair g3 TO x b := qO3
  refine wpAny_bind (wpAny_letGo (wpAny_pure ?_))
  refine wpAny_bind (wpAny_bind (wpAny_onRaise ?_))
  show wpAny _ _ (Builtin.SmallTypes.nextOf (.ref i2) >>= _) _ _ _
  refine wpAny_bind (nextOf_tupI (((q2.extBut c1.extBut D.i2z).extBut c2.extBut D.i12.symm).extBut c3.extBut D.TOi2.symm)
    (((ql2.extBut c1.extBut D.l2z).extBut c2.extBut D.l2i1).extBut c3.extBut D.l2TO) qy fun g4 it2 c4 => wpAny_pure ?_)
  have qO4 : IsPair g4 TO x b := c4.extBut _ _ D.TOi2 qO3
  refine wpAny_bind (wpAny_seqItems qO4 rfl ?_)
  refine wpAny_bind (wpAny_updateSeq_pair qO4 fun g5 qO5 c5 => ?_)
  replace qO5 : IsPair g5 TO x y := qO5
  refine wpAny_bind (wpAny_letGo (wpAny_pure (wpAny_pure ?_)))
  refine wpAny_bind (wpAny_seqItems qO5 rfl ?_)
  refine wpAny_bind (wpAny_newTuple ?_)
  have hsz : g5.objs.size = s.heap.objs.size := by rw [c5.1, c4.1, c3.1, c2.1, c1.1]
  have z5 : IsZip g5 z TI TO .ellipsis := c5.extBut _ _ D.TOz.symm (c4.extBut _ _ D.i2z.symm (c3.extBut _ _ D.TOz.symm (c2.extBut _ _ D.i1z.symm z1)))
  have k5 : ∀ c o, c ≠ z → c ≠ TO → c ≠ i1 → c ≠ i2 → s.heap.get? c = some o → g5.get? c = some o := fun c o n1 n2 n3 n4 e =>
    c5.extBut _ _ n2 (c4.extBut _ _ n4 (c3.extBut _ _ n2 (c2.extBut _ _ n3 (c1.extBut _ _ n1 e))))
  have it15 : g5.IsListIter i1 l1 (k1 + 1) := ((it1.extBut c3.extBut D.TOi1.symm).extBut c4.extBut D.i12).extBut c5.extBut D.TOi1.symm
  have it25 : g5.IsTupleIter i2 l2 (k2 + 1) := it2.extBut c5.extBut D.TOi2.symm
  have zlt : z < g5.objs.size := Heap.lt_size z5
  show wpAny _ _ (Builtin.SmallTypes.ownedTupleHandOut (.ref z) (.ref g5.objs.size) >>= _) _ _ _
  refine wpAny_bind ?_
  unfold Builtin.SmallTypes.ownedTupleHandOut
  have z6 : IsZip (g5.push { cls := .type "tuple", data := .seq #[x, y] }) z TI TO .ellipsis := Heap.get?_push_of_some _ z5
  refine wpAny_bind (wpAny_setField_rec z6 (by simp) fun g7 z7 c7 => ?_)
  replace z7 : IsZip g7 z TI TO (rawInt g5.objs.size) := z7
  refine wpAny_setField_rec z7 (by simp) fun g8 z8 c8 => ?_
  replace z8 : IsZip g8 z TI TO (rawInt g5.objs.size) := z8
  have up : ∀ c o, c ≠ z → g5.get? c = some o → g8.get? c = some o := fun c o n1 e => c8.extBut _ _ n1 (c7.extBut _ _ n1 (Heap.get?_push_of_some _ e))
  have pr8 : IsPair g8 g5.objs.size x y := c8.extBut _ _ (Nat.ne_of_gt zlt) (c7.extBut _ _ (Nat.ne_of_gt zlt) (Heap.get?_push_size _ rfl))
  have sz8 : g8.objs.size = g5.objs.size + 1 := by rw [c8.1, c7.1, Heap.size_push]
  rw [hsz] at z8 pr8 sz8
  refine wpAny_pure ⟨_, rfl, ?_⟩
  show Q (.ref g5.objs.size) _
  rw [hsz]
  exact fin g8 z8 (up _ _ D.TOz qO5) (it15.at fun o e => up _ o D.i1z e) (tupIter_at it25 fun o e => up _ o D.i2z e) pr8 sz8 fun c o n1 n2 n3 n4 e => up c o n1 (k5 c o n1 n2 n3 n4 e)
theorem zipT_end {z TI TO i1 i2 l1 l2 : Addr} {k1 : Nat} {xs : Array Value} {a b : Value} {Q : Fin → Shared → Prop} (hh : A.handled = none) (D : ZipApart z TI TO i1 i2 l1 l2)
    (qz : IsZip s.heap z TI TO .none) (qI : IsPair s.heap TI (.ref i1) (.ref i2)) (q1 : s.heap.IsListIter i1 l1 k1) (ql1 : s.heap.IsList l1 xs) (qx : xs[k1]? = none)
    (fin : ∀ h' e, (∀ c o, c ≠ z → c ≠ TO → c ≠ i1 → c ≠ i2 → s.heap.get? c = some o → h'.get? c = some o) → (∃ o, h'.get? e = some o ∧ o.cls = .type "StopIteration") → E (.ref e) { s with heap := h' }) :
    wpAny (model prog w) A (Builtin.«zip.__next__» ⟨[.ref z], []⟩) Q E s := by
  show wpAny _ _ (field (.ref z) 2 >>= _) _ _ _
  refine wpAny_bind (wpAny_field qz rfl (x := .bool false) rfl ?_)
  show wpAny _ _ (field (.ref z) 3 >>= _) _ _ _
  refine wpAny_bind (wpAny_field qz rfl (x := .ref TI) rfl ?_)
  refine wpAny_bind (wpAny_seqItems qI rfl ?_)
  show wpAny _ _ (Builtin.SmallTypes.ownedTupleIsFree (.ref z) >>= _) _ _ _
  refine wpAny_bind ?_
  unfold Builtin.SmallTypes.ownedTupleIsFree
  refine wpAny_bind (wpAny_field qz rfl (x := .none) rfl (wpAny_pure ?_))
  simp only [if_true]
  refine wpAny_bind (wpAny_rule ?_)
  refine wpAny_bind (wpAny_field qz rfl (x := .ref TO) rfl ?_)
  refine wpAny_bind (wpAny_setField_rec qz (by simp) fun g1 z1 c1 => ?_)
  replace z1 : IsZip g1 z TI TO .ellipsis := z1
  refine wpAny_bind ?_
  simp only [List.zipIdx_cons, List.zipIdx_nil, List.forIn_cons, List.forIn_nil]
  refine wpAny_bind (wpAny_bind (wpAny_onRaise ?_))
  show wpAny _ _ (Builtin.SmallTypes.nextOf (.ref i1) >>= _) _ _ _
  refine wpAny_bind (wpAny_nextOf_list_end hh (q1.extBut c1.extBut D.i1z) (ql1.extBut c1.extBut D.l1z) qx fun g2 e c2 he => ?_)
  obtain ⟨oe, ge, ce⟩ := he
  have z2 : IsZip g2 z TI TO .ellipsis := c2 _ _ D.i1z.symm z1
  have ez : e ≠ z := fun q => by subst q; rw [z2] at ge; cases ge; simp at ce
  exact wpAny_setField_rec z2 (by simp) fun g3 _ c3 => fin g3 e (fun c o n1 _ n3 _ q => c3.extBut _ _ n1 (c2 _ _ n3 (c1.extBut _ _ n1 q))) ⟨oe, c3.extBut _ _ ez ge, ce⟩
theorem pyNext_zipT_item {z TI TO i1 i2 l1 l2 : Addr} {k1 k2 : Nat} {xs ys : Array Value} {x y a b : Value} {Q : Option Value → Shared → Prop} (D : ZipApart z TI TO i1 i2 l1 l2)
    (qz : IsZip s.heap z TI TO .none) (qI : IsPair s.heap TI (.ref i1) (.ref i2)) (qO : IsPair s.heap TO a b)
    (q1 : s.heap.IsListIter i1 l1 k1) (q2 : s.heap.IsTupleIter i2 l2 k2) (ql1 : s.heap.IsList l1 xs) (ql2 : s.heap.IsTuple l2 ys) (qx : xs[k1]? = some x) (qy : ys[k2]? = some y)
    (fin : ∀ h', IsZip h' z TI TO (rawInt s.heap.objs.size) → IsPair h' TO x y → h'.IsListIter i1 l1 (k1 + 1) → h'.IsTupleIter i2 l2 (k2 + 1) → IsPair h' s.heap.objs.size x y → h'.objs.size = s.heap.objs.size + 1 →
      (∀ c o, c ≠ z → c ≠ TO → c ≠ i1 → c ≠ i2 → s.heap.get? c = some o → h'.get? c = some o) → Q (some (.ref s.heap.objs.size)) { s with heap := h' }) :
    wpAny (model prog w) A (pyNext (.ref z)) Q E s := by
  have hT : s.TypeIs (.ref z) "zip" := ⟨_, qz, rfl⟩
  unfold pyNext
  exact wpAny_bind (wpAny_attempt (wpAny_callSpecial?_slot (name := Str.ofString "__next__") hT F.slot_zip_next (wpAny_call_entry F.slot_zip_next hT F.entry_zip_next
      (zipT_item D qz qI qO q1 q2 ql1 ql2 qx qy fun h' a1 a2 a3 a4 a5 a6 a7 => wpAny_pure (fin h' a1 a2 a3 a4 a5 a6 a7)) (F.args_zip_next_1 _))))
theorem pyNext_zipT_end {z TI TO i1 i2 l1 l2 : Addr} {k1 : Nat} {xs : Array Value} {Q : Option Value → Shared → Prop} (hh : A.handled = none) (D : ZipApart z TI TO i1 i2 l1 l2)
    (qz : IsZip s.heap z TI TO .none) (qI : IsPair s.heap TI (.ref i1) (.ref i2)) (q1 : s.heap.IsListIter i1 l1 k1) (ql1 : s.heap.IsList l1 xs) (qx : xs[k1]? = none)
    (fin : ∀ h', (∀ c o, c ≠ z → c ≠ TO → c ≠ i1 → c ≠ i2 → s.heap.get? c = some o → h'.get? c = some o) → Q none { s with heap := h' }) : wpAny (model prog w) A (pyNext (.ref z)) Q E s := by
  have hT : s.TypeIs (.ref z) "zip" := ⟨_, qz, rfl⟩
  unfold pyNext
  refine wpAny_bind (wpAny_attempt (wpAny_callSpecial?_slot (name := Str.ofString "__next__") hT F.slot_zip_next (wpAny_call_entry F.slot_zip_next hT F.entry_zip_next (zipT_end (a := .none) (b := .none) hh D qz qI q1 ql1 qx fun h' e hk he => ?_) (F.args_zip_next_1 _))))
  obtain ⟨o, ho, hc⟩ := he
  refine wpAny_bind (wpAny_isInstance (T := "StopIteration") (b := true) ⟨o, ho, hc⟩ isSubtype_stop ?_)
  exact wpAny_pure (fin _ hk)
end
abbrev zT1 (h : Heap) (l1 : Addr) : Heap := h.push { cls := .type "list_iterator", data := .fields #[.ref l1, .int 0 0] }
abbrev zT2 (h : Heap) (l1 l2 : Addr) : Heap := (zT1 h l1).push { cls := .type "tuple_iterator", data := .fields #[.ref l2, .int 0 0] }
abbrev zT3 (h : Heap) (l1 l2 : Addr) : Heap := (zT2 h l1 l2).push { cls := .type "tuple", data := .seq #[.ref h.objs.size, .ref (zT1 h l1).objs.size] }
abbrev zT4 (h : Heap) (l1 l2 : Addr) : Heap := (zT3 h l1 l2).push { cls := .type "tuple", data := .seq #[.none, .none] }
abbrev zT5 (h : Heap) (l1 l2 : Addr) : Heap := (zT4 h l1 l2).push { cls := .type "zip", data := .fields #[.none, .bool false, .bool false, .ref (zT2 h l1 l2).objs.size, .ref (zT3 h l1 l2).objs.size] }
theorem meets_zipT (l1 l2 : Addr) (xs ys : Array Value) :
    Meets (Builtin.«zip.__new__» ⟨[.type "zip", .ref l1, .ref l2], []⟩) (fun _ R s => s.heap.IsList l1 xs ∧ s.heap.IsTuple l2 ys ∧ R (.ok (.ret (.ref (zT4 s.heap l1 l2).objs.size))) { s with heap := zT5 s.heap l1 l2 }) :=
  .of_wp fun prog w A R s hyp => by
    obtain ⟨heap0, gens0, dr0, tk0, os0⟩ := s
    obtain ⟨ql1, ql2, fin⟩ := hyp
    have hsub := sub_zip
    have qL1 : Heap.IsList (Shared.heap ⟨heap0, gens0, dr0, tk0, os0⟩) l1 xs := ql1
    have qL2 : Heap.IsTuple (Shared.heap ⟨heap0.push { cls := .type "list_iterator", data := .fields #[.ref l1, .int 0 0] }, gens0, dr0, tk0, os0⟩) l2 ys := Heap.IsTuple.push ql2 _
    wp_walk using wpAny_pyIter_list qL1, wpAny_pyIter_tuple qL2
    exact ⟨_, rfl, fin⟩
section
variable {prog : Program} {w : World} {A : Around} {E : Value → Shared → Prop} {s : Shared}
theorem call_zipT {l1 l2 : Addr} {xs ys : Array Value} {Q : Value → Shared → Prop} (ql1 : s.heap.IsList l1 xs) (ql2 : s.heap.IsTuple l2 ys)
    (fin : ∀ h', IsZip h' (s.heap.objs.size + 4) (s.heap.objs.size + 2) (s.heap.objs.size + 3) .none → IsPair h' (s.heap.objs.size + 2) (.ref s.heap.objs.size) (.ref (s.heap.objs.size + 1)) →
      IsPair h' (s.heap.objs.size + 3) .none .none → h'.IsListIter s.heap.objs.size l1 0 → h'.IsTupleIter (s.heap.objs.size + 1) l2 0 → h'.objs.size = s.heap.objs.size + 5 →
      (∀ c o, s.heap.get? c = some o → h'.get? c = some o) → Q (.ref (s.heap.objs.size + 4)) { s with heap := h' }) :
    wpAny (model prog w) A (call (.type "zip") [.ref l1, .ref l2]) Q E s := by
  refine callType_new F.called_zip (by decide) (F.typeCall_zip_2 _ _) (F.newCall_zip_2 _ _) (fun obj => F.args_object_init_3 obj _ _) F.entry_zip_new (meets_zipT l1 l2 xs ys) ⟨ql1, ql2, ?_⟩
  have y1 : (zT1 s.heap l1).objs.size = s.heap.objs.size + 1 := Heap.size_push ..
  have y2 : (zT2 s.heap l1 l2).objs.size = s.heap.objs.size + 2 := by rw [Heap.size_push, y1]
  have y3 : (zT3 s.heap l1 l2).objs.size = s.heap.objs.size + 3 := by rw [Heap.size_push, y2]
  have y4 : (zT4 s.heap l1 l2).objs.size = s.heap.objs.size + 4 := by rw [Heap.size_push, y3]
  have y5 : (zT5 s.heap l1 l2).objs.size = s.heap.objs.size + 5 := by rw [Heap.size_push, y4]
  have g5 : (zT5 s.heap l1 l2).get? (zT4 s.heap l1 l2).objs.size = some _ := Heap.get?_push_size _ rfl
  have g4 : (zT5 s.heap l1 l2).get? (zT3 s.heap l1 l2).objs.size = some _ := Heap.get?_push_of_some _ (Heap.get?_push_size _ rfl)
  have g3 : (zT5 s.heap l1 l2).get? (zT2 s.heap l1 l2).objs.size = some _ := Heap.get?_push_of_some _ (Heap.get?_push_of_some _ (Heap.get?_push_size _ rfl))
  have g2 : (zT5 s.heap l1 l2).get? (zT1 s.heap l1).objs.size = some _ := Heap.get?_push_of_some _ (Heap.get?_push_of_some _ (Heap.get?_push_of_some _ (Heap.get?_push_size _ rfl)))
  have g1 : (zT5 s.heap l1 l2).get? s.heap.objs.size = some _ := Heap.get?_push_of_some _ (Heap.get?_push_of_some _ (Heap.get?_push_of_some _ (Heap.get?_push_of_some _ (Heap.get?_push_size _ rfl))))
  show _ ∧ _
  rw [y2, y3, y4] at g5
  rw [y1, y2] at g3
  rw [y3] at g4
  rw [y1] at g2
  rw [y4]
  exact ⟨⟨_, g5, rfl⟩, fin _ g5 g3 g4 ⟨_, g1, rfl, rfl⟩ ⟨_, g2, rfl, rfl⟩ y5 fun c o q =>
    Heap.get?_push_of_some _ (Heap.get?_push_of_some _ (Heap.get?_push_of_some _ (Heap.get?_push_of_some _ (Heap.get?_push_of_some _ q))))⟩
end
def Itzt (K : PySem.W.Frag) (a b : Addr) : It :=
  ⟨fun i H => ∃ (xs ys : List V) (x y : V), SqL K H a xs ∧ SqT K H b ys ∧ xs[i]? = some x ∧ ys[i]? = some y,
    fun i H v H' => ∃ T x y, v = .ref T ∧ H T = none ∧ H' = upd H T (.tup [x, y]) ∧ (∀ xs, SqL K H a xs → xs[i]? = some x) ∧ ∀ ys, SqT K H b ys → ys[i]? = some y,
    fun i H => ∃ xs : List V, SqL K H a xs ∧ xs.length ≤ i⟩
theorem turn_zipT {P : Program} {w : World} {K : PySem.W.Frag} {elts : List Expr} {kk : Nat} {tpos : Pos} {a b z TI TO i1 i2 : Addr} (D : ZipApart z TI TO i1 i2 a b) :
    Turn P w K (.Tuple elts kk tpos) (Itzt K a b) [z, TI, TO, i1, i2] z (fun i h => IsZip h z TI TO .none ∧ IsPair h TI (.ref i1) (.ref i2) ∧ (∃ x y, IsPair h TO x y) ∧ h.IsListIter i1 a i ∧ h.IsTupleIter i2 b i) where
  mem := by simp
  obj := fun i h st c hc => by
    obtain ⟨qz, qI, ⟨x, y, qO⟩, ⟨o1, e1, _, d1⟩, ⟨o2, e2, _, d2⟩⟩ := st
    have e' : c = z ∨ c = TI ∨ c = TO ∨ c = i1 ∨ c = i2 := by simpa using hc
    rcases e' with q | q | q | q | q
    · rw [q]; exact ⟨_, qz, fun v q => nomatch q⟩
    · rw [q]; exact ⟨_, qI, fun v q => nomatch q⟩
    · rw [q]; exact ⟨_, qO, fun v q => nomatch q⟩
    · rw [q]; exact ⟨o1, e1, fun v q => by rw [d1] at q; cases q⟩
    · rw [q]; exact ⟨o2, e2, fun v q => by rw [d2] at q; cases q⟩
  keep := fun i h h' st k => by
    obtain ⟨qz, qI, ⟨x, y, qO⟩, q1, q2⟩ := st
    exact ⟨k z (by simp) _ qz, k TI (by simp) _ qI, ⟨x, y, k TO (by simp) _ qO⟩, q1.at fun o q => k i1 (by simp) o q, tupIter_at q2 fun o q => k i2 (by simp) o q⟩
  item := by
    intro X hP hw hK hc i pins s σ H E I hf st hg
    subst hP hw hK
    obtain ⟨qz, qI, ⟨x0, y0, qO⟩, q1, q2⟩ := st
    obtain ⟨xs, ys, x, y, hqx, hqy, hx, hy⟩ := hg
    obtain ⟨its, rv, p, _⟩ := I.list hqx
    obtain ⟨its2, rv2, p2, _⟩ := I.tuple hqy
    obtain ⟨u, hu, ru⟩ := rv.get hx
    obtain ⟨u2, hu2, ru2⟩ := rv2.get hy
    have zl : z < s.heap.objs.size := Heap.lt_size qz
    refine pyNext_zipT_item D qz qI qO q1 q2 p.isList p2 (x := u) (y := u2) (by simpa using hu) (by simpa using hu2) fun h' z' TO' h1' h2' hT hsz hk => ?_
    refine ⟨_, rfl, wpAny_letOwnedTupleGo_zip (s := { s with heap := h' }) z' fun h'' z'' sb => ?_⟩
    have hT2 : h''.get? s.heap.objs.size = some { cls := .type "tuple", data := .seq #[u, u2] } := (sb.2 _ (Nat.ne_of_gt zl)).trans hT
    have new : ObjOk X.prog X.w (upd H s.heap.objs.size (.tup [x, y])) h'' s.heap.objs.size (.tup [x, y]) :=
      ⟨by show 2 ≤ sizeLine; decide, [u, u2], .cons ru (.cons ru2 .nil), ⟨_, hT2, rfl, _, rfl⟩⟩
    have I1 : Inv X pins σ (upd H s.heap.objs.size (.tup [x, y])) { s with heap := h'' } :=
      I.turnedNew (t' := s.toks) (ch := [z, TI, TO, i1, i2]) (fun c o hb q => (sb.2 c (fun q' => hb (by simp [q']))).trans (hk c o (fun q' => hb (by simp [q'])) (fun q' => hb (by simp [q'])) (fun q' => hb (by simp [q'])) (fun q' => hb (by simp [q'])) q)) hf (Nat.le_refl _) new
    refine ⟨.ref s.heap.objs.size, _, I1, rfl, ⟨_, x, y, rfl, I.hok.fresh (Nat.le_refl _), rfl, fun l hl => by rw [I.list_inj hl hqx]; exact hx, fun l hl => by rw [I.tuple_inj hl hqy]; exact hy⟩, ⟨z'', ?_, ⟨u, u2, ?_⟩, ?_, ?_⟩, fun c hcm => ?_⟩
    · exact (sb.2 _ D.TIz).trans (hk _ _ D.TIz D.TITO D.TIi1 D.TIi2 qI)
    · exact (sb.2 _ D.TOz).trans TO'
    · exact h1'.at fun o q => (sb.2 _ D.i1z).trans q
    · exact tupIter_at h2' fun o q => (sb.2 _ D.i2z).trans q
    · have hlt : c < s.heap.objs.size := by
        have e' : c = z ∨ c = TI ∨ c = TO ∨ c = i1 ∨ c = i2 := by simpa using hcm
        rcases e' with q | q | q | q | q
        · rw [q]; exact zl
        · rw [q]; exact Heap.lt_size qI
        · rw [q]; exact Heap.lt_size qO
        · rw [q]; obtain ⟨_, e1, _⟩ := q1; exact Heap.lt_size e1
        · rw [q]; obtain ⟨_, e2, _⟩ := q2; exact Heap.lt_size e2
      rw [upd_ne (Nat.ne_of_lt hlt)]
      exact (hf c hcm).1
  done := by
    intro X hP hw hK hc i pins s σ H E I hf st hg
    subst hP hw hK
    obtain ⟨qz, qI, ⟨x0, y0, qO⟩, q1, q2⟩ := st
    obtain ⟨xs, hqx, hend⟩ := hg
    obtain ⟨its, rv, p, _⟩ := I.list hqx
    have l1 := rv.length
    exact pyNext_zipT_end (I.ok.hd hc) D qz qI q1 p.isList (by simp; omega) fun h' hk => ⟨rfl, I.turnedL (t' := s.toks) (ch := [z, TI, TO, i1, i2]) (fun c o hb q =>
      hk c o (fun q' => hb (by simp [q'])) (fun q' => hb (by simp [q'])) (fun q' => hb (by simp [q'])) (fun q' => hb (by simp [q'])) q) hf⟩
  self := fun A i s Q E st h => wpAny_pyIter_zip st.1 h
def iZipT (K : PySem.W.Frag) (ta : TA) : TI := fun σ H R => ta σ H fun vs H1 => ∃ a b xs ys, vs = [.ref a, .ref b] ∧ SqL K H1 a xs ∧ SqT K H1 b ys ∧ R (Itzt K a b) H1
theorem pi_zipT {X : Cx} {e e2 : Expr} {ta : TA} {p pos tpos : Pos} {elts : List Expr} {kk : Nat} (hg : Gl X "zip") (hm : X.mg "zip" = none) (ha : PA X [e, e2] ta)
    (hs : starEach [e, e2] X.env = (false, eval e X.env) :: starEach [e2] X.env := by rfl) (hpl : (backTo pos (starEach [e2] X.env)).any (·.1) = false := by rfl) :
    PI X (.Tuple elts kk tpos) (.Call (.Name "zip" p) [e, e2] [] pos) (iZipT X.K ta) := by
  intro pins s σ H R I h
  refine Call_ (ld_blt I hg hm boot_zip5 (PyProof.Rows.callWith_type1 (thn (ha pos pins s σ H _ I h) fun us s1 ⟨vs, H1, I1, r1, q1⟩ => ?_) hs hpl))
  obtain ⟨a, b, xs, ys, ex, hqx, hqy, q⟩ := q1
  subst ex
  obtain ⟨u1, u2, rfl, ra, rb⟩ := vals2 r1
  cases ra
  cases rb
  obtain ⟨its, rv, p1, _⟩ := I1.list hqx
  obtain ⟨its2, rv2, p2, _⟩ := I1.tuple hqy
  have la : a < s1.heap.objs.size := p1.lt
  have lb : b < s1.heap.objs.size := by obtain ⟨o, ho, _⟩ := p2; exact Heap.lt_size ho
  refine call_zipT p1.isList p2 fun h' qz qI qO q1 q2 hsz hk => wpAny_pyIter_zip qz ?_
  have I2 : Inv X pins σ H1 { s1 with heap := h' } := I1.kept (t' := s1.toks) hk
  refine ⟨s1.heap.objs.size + 4, [s1.heap.objs.size + 4, s1.heap.objs.size + 2, s1.heap.objs.size + 3, s1.heap.objs.size, s1.heap.objs.size + 1], _, _, H1, rfl, I2, turn_zipT (PySem.W.ktu_apart s1.heap.objs.size a b la lb), ⟨qz, qI, ⟨_, _, qO⟩, q1, q2⟩, fun c hcm => ?_, q⟩
  have e' : c = s1.heap.objs.size + 4 ∨ c = s1.heap.objs.size + 2 ∨ c = s1.heap.objs.size + 3 ∨ c = s1.heap.objs.size ∨ c = s1.heap.objs.size + 1 := by simpa using hcm
  have hle : s1.heap.objs.size ≤ c := by
    rcases e' with z | z | z | z | z
    · rw [z]; exact Nat.le_add_right _ _
    · rw [z]; exact Nat.le_add_right _ _
    · rw [z]; exact Nat.le_add_right _ _
    · rw [z]; exact Nat.le_refl _
    · rw [z]; exact Nat.le_add_right _ _
  exact I1.fpOk hle (I1.hok.fresh hle)
theorem for_zipT {K : PySem.W.Frag} {a b : Addr} {xs ys : List V} {g : TG} {tb : TS} {D : Ends} {σ : L2.St} {H : Hp} (hlen : xs.length = ys.length) (Pv : Nat → L2.St → Hp → Prop) (h0 : Pv 0 σ H) (hl : ∀ i σ H, i ≤ xs.length → Pv i σ H → SqL K H a xs ∧ SqT K H b ys)
    (hs : ∀ i x y σ H T, xs[i]? = some x → ys[i]? = some y → H T = none → Pv i σ H → g (.ref T) σ (upd H T (.tup [x, y])) fun σ2 H2 => tb { D with nx := Pv (i + 1), ct := Pv (i + 1), bk := D.nx } σ2 H2) (hd : ∀ σ H, Pv xs.length σ H → D.nx σ H) :
    ∃ W : Nat → Nat → L2.St → Hp → Prop, (∃ m, W 0 m σ H) ∧ ∀ i m σ H, W i m σ H →
      ((Itzt K a b).stop i H ∧ D.nx σ H) ∨ ((Itzt K a b).go i H ∧ ∃ N : L2.St → Hp → Prop, (∀ σ' H', N σ' H' → ∃ m', m' < m ∧ W (i + 1) m' σ' H') ∧ ∀ x H', (Itzt K a b).yld i H x H' → g x σ H' fun σ2 H2 => tb { D with nx := N, ct := N, bk := D.nx } σ2 H2) := by
  refine ⟨fun i m σ H => m = xs.length - i ∧ i ≤ xs.length ∧ Pv i σ H, ⟨xs.length, by simp, Nat.zero_le _, h0⟩, ?_⟩
  rintro i m σ H ⟨rfl, hi, p⟩
  obtain ⟨q, q'⟩ := hl i σ H hi p
  by_cases hlt : i < xs.length
  · refine .inr ⟨⟨xs, ys, xs[i], ys[i]'(by omega), q, q', by simp [hlt], by simp [show i < ys.length by omega]⟩, Pv (i + 1), fun σ' H' p' => ⟨xs.length - (i + 1), by omega, rfl, hlt, p'⟩, fun x H' y => ?_⟩
    obtain ⟨T, z, z', rfl, hT, rfl, y1, y2⟩ := y
    exact hs i z z' σ _ T (y1 xs q) (y2 ys q') hT p
  · have e : i = xs.length := by omega
    subst e
    exact .inl ⟨⟨xs, q, Nat.le_refl _⟩, hd σ H p⟩
end L2
set_option Elab.async false
set_option linter.all false
set_option maxRecDepth 100000
set_option maxHeartbeats 2000000
namespace L2
open PySem PySem.Spec PyProof.Rows
section
variable {prog : Program} {w : World} {A : Around} {R : Result → Shared → Prop} {E : Value → Shared → Prop} {s : Shared} {it : Addr} {fp wr : List Addr} {n : Nat} {P : Nat → Value → Prop} {St : Nat → Heap → Prop}
def CmpIn (prog : Program) (w : World) (A : Around) (P : Nat → Value → Prop) (St : Nat → Heap → Prop) (bt : Nat → Nat → Bool) : Prop :=
  ∀ (k i j : Nat) (x y : Value) (s : Shared) (Q : Value → Shared → Prop) (E : Value → Shared → Prop), St k s.heap → P i x → P j y → Q (.bool (bt i j)) s → wpAny (model prog w) A (richCompare .Lt x y) Q E s
theorem least_loop (W : Walks prog w A.in1 it fp wr n P St) (bt : Nat → Nat → Bool) (cm : CmpIn prog w A.in1 P St bt) (B : Addr) (nB : B ∉ fp) :
    ∀ (k j : Nat) (s : Shared) (x : Value) (c : Nat), n - (j + 1) = k → j + 1 ≤ n → St (j + 1) s.heap → P (argBest bt j) x →
    s.heap.get? B = some { cls := .type "list", dict := none, data := .seq #[x, x] c, slots := #[] } →
    (∀ v h' tk, P (argBest bt (n - 1)) v → (∀ b o, b ∉ wr → b ≠ B → s.heap.get? b = some o → h'.get? b = some o) → R (.ok (.ret v)) { s with heap := h', toks := tk }) →
    codeAny (model prog w) A (.builtin "min.loop" ⟨[.ref it, .none, .ref B], []⟩) R s := by
  have nW : B ∉ wr := fun z => nB (W.sub _ z)
  have nam : (toString "min" ++ toString ".loop" : String) = "min.loop" := by decide
  intro k
  induction k with
  | zero =>
    intro j s x c hk hj st px hB fin
    have hn : j + 1 = n := by omega
    refine codeAny_builtin PySem.F.entry_min_loop ?_
    rw [Around.under_plainId PySem.F.plain_min_loop _]
    refine wpAny_bind (wpAny_seqItems hB rfl ?_)
    refine wpAny_bind (wpAny_tryCatch (W.done s _ _ (hn ▸ st) fun h' tk kp => ?_))
    have hB' := kp B _ nW hB
    show wpAny _ A.in1 (updateSeq B (fun _ => #[]) >>= _) _ _ _
    refine wpAny_bind ?_
    refine wpAny_updateSeq hB' rfl (wpAny_bind (wpAny_letGo (wpAny_pure ?_)))
    exact fin x _ tk (by rw [← hn]; exact px) fun b o bw bB e => (Heap.get?_update_other _ _ (Ne.symm bB)).trans (kp b o bw e)
  | succ k ih =>
    intro j s x c hk hj st px hB fin
    have hlt : j + 1 < n := by omega
    refine codeAny_builtin PySem.F.entry_min_loop ?_
    rw [Around.under_plainId PySem.F.plain_min_loop _]
    refine wpAny_bind (wpAny_seqItems hB rfl ?_)
    refine wpAny_bind (wpAny_tryCatch (W.item (j + 1) s _ _ hlt st fun v h' tk pv st' kp => ?_))
    have hB' := kp B _ nW hB
    show wpAny _ A.in1 (tryCatch (holding [v, v] (richCompare .Lt v x >>= _)) _ >>= _) _ _ _
    refine wpAny_bind (wpAny_tryCatch (wpAny_holding (wpAny_bind (cm (j + 2) (j + 1) (argBest bt j) v x { s with heap := h', toks := tk } _ _ st' pv px ?_))))
    refine wpAny_bind (wpAny_holding (wpAny_truthy_bool ?_))
    refine wpAny_bind (wpAny_letGo (wpAny_pure ?_))
    cases hb : bt (j + 1) (argBest bt j) with
    | true =>
      simp only [if_true]
      refine wpAny_bind ?_
      refine wpAny_updateSeq hB' rfl (wpAny_bind (wpAny_letGo ?_))
      rw [nam]
      refine wpAny_pure ⟨plainId_quiet PySem.F.plain_min_loop _, ih (j + 1) _ v _ (by omega) hlt (W.frame _ _ _ st' fun b bf o e => ?_) (by simp only [argBest, hb, if_true]; exact pv) (Heap.get?_update_self _ hB' rfl) fun v' h2 tk2 pv' kp2 => ?_⟩
      · exact (Heap.get?_update_other _ _ (fun z : B = b => nB (by rw [z]; exact bf))).trans e
      · exact fin v' h2 tk2 pv' fun b o bw bB e => kp2 b o bw bB ((Heap.get?_update_other _ _ (Ne.symm bB)).trans (kp b o bw e))
    | false =>
      simp only [Bool.false_eq_true, if_false]
      refine wpAny_bind (wpAny_letGo ?_)
      rw [nam]
      refine wpAny_pure ⟨plainId_quiet PySem.F.plain_min_loop _, ih (j + 1) _ x c (by omega) hlt st' (by simp only [argBest, hb, Bool.false_eq_true, if_false]; exact px) hB' fun v' h2 tk2 pv' kp2 => ?_⟩
      exact fin v' h2 tk2 pv' fun b o bw bB e => kp2 b o bw bB (kp b o bw e)
theorem least_first (W : Walks prog w A.in1 it fp wr n P St) (bt : Nat → Nat → Bool) (cm : CmpIn prog w A.in1 P St bt) (B : Addr) (nB : B ∉ fp) (h0 : 0 < n) {s : Shared} {c : Nat} (st : St 0 s.heap)
    (hB : s.heap.get? B = some { cls := .type "list", dict := none, data := .seq #[] c, slots := #[] })
    (fin : ∀ v h' tk, P (argBest bt (n - 1)) v → (∀ b o, b ∉ wr → b ≠ B → s.heap.get? b = some o → h'.get? b = some o) → R (.ok (.ret v)) { s with heap := h', toks := tk }) :
    codeAny (model prog w) A (.builtin "min.loop" ⟨[.ref it, .none, .ref B], []⟩) R s := by
  have nW : B ∉ wr := fun z => nB (W.sub _ z)
  have nam : (toString "min" ++ toString ".loop" : String) = "min.loop" := by decide
  refine codeAny_builtin PySem.F.entry_min_loop ?_
  rw [Around.under_plainId PySem.F.plain_min_loop _]
  refine wpAny_bind (wpAny_seqItems hB rfl ?_)
  refine wpAny_bind (wpAny_tryCatch (W.item 0 s _ _ h0 st fun v h' tk pv st' kp => ?_))
  have hB' := kp B _ nW hB
  show wpAny _ A.in1 (updateSeq B (fun _ => #[v, v]) >>= _) _ _ _
  refine wpAny_bind ?_
  refine wpAny_updateSeq hB' rfl ?_
  rw [nam]
  refine wpAny_pure ⟨plainId_quiet PySem.F.plain_min_loop _, least_loop W bt cm B nB _ 0 _ v _ rfl h0 (W.frame _ _ _ st' fun b bf o e => ?_) pv (Heap.get?_update_self _ hB' rfl) fun v' h2 tk2 pv' kp2 => ?_⟩
  · exact (Heap.get?_update_other _ _ (fun z : B = b => nB (by rw [z]; exact bf))).trans e
  · exact fin v' h2 tk2 pv' fun b o bw bB e => kp2 b o bw bB ((Heap.get?_update_other _ _ (Ne.symm bB)).trans (kp b o bw e))
theorem least_of {x : Value} {Q : Value → Shared → Prop}
    (h : wpAny (model prog w) A.in1 (pyIter x) (fun t s2 => ∃ it fp wr n P St bt, t = .ref it ∧ Walks prog w A.in1 it fp wr n P St ∧ St 0 s2.heap ∧ (∀ b ∈ fp, b < s2.heap.objs.size) ∧ 0 < n ∧ CmpIn prog w A.in1 P St bt ∧
      ∀ v h' tk, P (argBest bt (n - 1)) v → (∀ b o, b ∉ wr → s2.heap.get? b = some o → h'.get? b = some o) → Q v { s2 with heap := h', toks := tk }) E s) :
    wpAny (model prog w) A (call (.builtin "min") [x]) Q E s := by
  have nam : (toString "min" ++ toString ".loop" : String) = "min.loop" := by decide
  refine call_function_tree PySem.F.kind_min PySem.F.plain_min PySem.F.entry_min (PySem.F.args_min1 _) ?_
  refine wpAny_bind (wpAny_of_eq (show Builtin.Builtins.bindParams "min" ["key", "default"] 0 ⟨[], []⟩ = pure [none, none] from rfl) ?_)
  refine wpAny_bind (wpAny_pure ?_)
  refine wpAny_bind (wpAny_mono h (fun t s2 h2 => ?_) fun _ _ e => e)
  obtain ⟨it, fp, wr, n, P, St, bt, rfl, W, st, hfp, h0, cm, fin⟩ := h2
  refine wpAny_bind (wpAny_newObj_type ?_)
  have nB : s2.heap.objs.size ∉ fp := fun z => Nat.lt_irrefl _ (hfp _ z)
  rw [nam]
  refine wpAny_pure ⟨plainId_quiet PySem.F.plain_min_loop _, least_first W bt cm s2.heap.objs.size nB h0 (W.frame _ _ _ st fun b _ o e => Heap.get?_push_of_some _ e) (Heap.get?_push_size _ rfl) fun v h' tk pv kp => ?_⟩
  exact fin v h' tk pv fun b o bw e => kp b o bw (Nat.ne_of_lt (Heap.lt_size e)) (Heap.get?_push_of_some _ e)
end
section
variable {X : Cx}
def CDivB (i j : Int) : Prop := 0 < j ∧ j < 18446744073709551616
theorem op_fdivB : OpR X (binaryOp .FloorDiv) (rI CDivB fun i j => .int (i / j)) := opI fun i j _ _ _ _ _ hc q => by
  have h1 : (0 : Int) < j := hc.1
  have h2 : j < 18446744073709551616 := hc.2
  have h3 : j.natAbs.log2 < 64 := (Nat.log2_lt (by omega)).mpr (show j.natAbs < 18446744073709551616 by omega)
  exact floordiv_int (by omega) (by rw [Int.fdiv_eq_ediv_of_nonneg i (by omega)]; exact q) (.inl (PyProof.noPylong_of_log2 (by omega)))
theorem kept_new {s : Shared} {h' : Heap} {o : Obj} (hk : ∀ b x, b ∉ [s.heap.objs.size] → (s.heap.push o).get? b = some x → h'.get? b = some x) : ∀ b x, s.heap.get? b = some x → h'.get? b = some x := fun b x e =>
  hk b x (fun z => by rw [List.mem_singleton.mp z] at e; exact Nat.lt_irrefl _ (Heap.lt_size e)) (Heap.get?_push_of_some _ e)
theorem vals_pt : ∀ {xs : List V} {us : List Value}, xs.length = us.length → (∀ (i : Nat) (x : V), xs[i]? = some x → ∃ u, us[i]? = some u ∧ RelV x u) → Vals xs us
  | [], [], _, _ => .nil
  | x :: xs, u :: us, hl, h => by
    refine .cons ?_ (vals_pt (by simpa using hl) fun i y e => by simpa using h (i + 1) y (by simpa using e))
    obtain ⟨u', e, r⟩ := h 0 x rfl
    have e : u = u' := Option.some.inj e
    exact e ▸ r
def tLRng (ta : TA) : TE := fun σ H Q => ta σ H fun vs H1 => ∃ i j : Int, vs = [.int i, .int j] ∧ (-(2 ^ 62) ≤ i ∧ i < 2 ^ 62 ∧ -(2 ^ 62) ≤ j ∧ j < 2 ^ 62) ∧ (j - i).toNat ≤ 1000000 ∧
  ∀ l, H1 l = none → Q (.ref l) (upd H1 l (.lst ((List.range (j - i).toNat).map fun (k : Nat) => V.int (i + (k : Int)))))
theorem pe_lrange2 {a b : Expr} {ta : TA} {p p2 pos pos2 : Pos} (hc : X.calm = true) (hgl : Gl X "list") (hml : X.mg "list" = none) (hg : Gl X "range") (hm : X.mg "range" = none) (ha : PA X [a, b] ta)
    (hs : starEach [a, b] X.env = [(false, eval a X.env), (false, eval b X.env)] := by rfl) (hs2 : starEach [b] X.env = [(false, eval b X.env)] := by rfl)
    (hs3 : starEach [Expr.Call (.Name "range" p2) [a, b] [] pos2] X.env = [(false, eval (.Call (.Name "range" p2) [a, b] [] pos2) X.env)] := by rfl) :
    PE X (.Call (.Name "list" p) [.Call (.Name "range" p2) [a, b] [] pos2] [] pos) (tLRng ta) := by
  intro pins s σ H Q I h
  refine wpAny_Call_Name_kw (ld_blt I hgl hml boot_list (PyProof.Rows.callWith_type1 ?_ hs3 rfl))
  rw [hs3]
  refine Calls.spliced_cons ?_
  refine Call_ (ld_blt I hg hm boot_range (PyProof.Rows.callWith_type1 (thn (ha pos2 pins s σ H _ I h) fun us s1 ⟨vs, H1, I1, r1, q1⟩ => ?_) (by rw [hs, hs2]) (by rw [hs2]; rfl)))
  obtain ⟨i, j, rfl, ⟨q1, q2, q3, q4⟩, q5, q⟩ := q1
  obtain ⟨u, u', rfl, ⟨t, rfl⟩, ⟨t', rfl⟩⟩ := vals2 r1
  refine call_range_2 ?_
  refine Calls.spliced_nil ?_
  have sz : Builtin.Range.rangeSize i j 1 = ((j - i).toNat : Nat) := by rw [rangeSize_one]; split <;> omega
  refine call_list_range (n := (j - i).toNat) (I1.ok.hd hc) (IsRange.new ..) (small_one q1 q2 q3 q4) sz (by omega) fun h' tk acc c kp hS hacc => ?_
  have I2 : Inv X pins σ H1 { s1 with heap := s1.heap.push { cls := .type "range", data := .fields #[.int i t, .int j t', .int 1 s1.toks] }, toks := s1.toks + 1 } := I1.kept fun b o e => Heap.get?_push_of_some _ e
  refine ⟨.ref _, _, I2.laid (t' := tk) (o := .lst ((List.range (j - i).toNat).map fun (k : Nat) => V.int (i + (k : Int)))) kp (Nat.le_refl _) ?_, rfl, q _ (I2.hok.fresh (Nat.le_refl _))⟩
  refine ⟨by rw [List.length_map, List.length_range]; exact Nat.le_trans q5 (by decide), acc.toList, c, vals_pt ?_ (fun k x e => ?_), by rw [Array.toArray_toList]; exact hS⟩
  · rw [List.length_map, List.length_range, Array.length_toList, hacc.1]
  · have hk : k < (j - i).toNat := by
      have := (List.getElem?_eq_some_iff.mp e).1
      rw [List.length_map, List.length_range] at this; exact this
    rw [List.getElem?_map, List.getElem?_range hk] at e
    have ex : x = V.int (i + (k : Int)) := (Option.some.inj e).symm
    subst ex
    have hk' : k < acc.size := by rw [hacc.1]; exact hk
    obtain ⟨t2, e2⟩ := hacc.2 k acc[k] (by rw [Array.getElem?_eq_getElem hk'])
    refine ⟨acc[k], by rw [Array.getElem?_toList, Array.getElem?_eq_getElem hk'], t2, ?_⟩
    rw [e2, Int.mul_one]
theorem call_minT (hc : X.calm = true) (hu : X.A.units + 64 < cLine) : CallR X (.builtin "min") (fun xs H Q => ∃ (p : Addr) (as : List Addr) (rows : List (List Int)), xs = [.ref p] ∧ SqL X.K H p (as.map V.ref) ∧ as.length = rows.length ∧ 0 < rows.length ∧
    (∀ (i : Nat) (a : Addr) (r : List Int), as[i]? = some a → rows[i]? = some r → SqT X.K H a (r.map V.int)) ∧
    ∀ a, as[argBest (fun i j => HT.lexLt (rows.getD i []) (rows.getD j [])) (rows.length - 1)]? = some a → Q (.ref a) H) := by
  intro pins s σ H xs us Q I r h
  obtain ⟨p, as, rows, rfl, hs, hl, h0, hr, q⟩ := h
  obtain ⟨u, rfl, rx⟩ := vals1 r
  cases rx
  obtain ⟨its, rv, pl, hz⟩ := I.list hs
  have hlen : its.length = as.length := by rw [← rv.length, List.length_map]
  have hit : ∀ (i : Nat) (v : Value), its[i]? = some v → ∃ a, as[i]? = some a ∧ v = .ref a := fun i v e => by
    have hi : i < as.length := by rw [← hlen]; exact (List.getElem?_eq_some_iff.mp e).1
    have e1 : as[i]? = some as[i] := List.getElem?_eq_getElem hi
    obtain ⟨u, hu, ru⟩ := rv.get (show (as.map V.ref)[i]? = some (.ref as[i]) by rw [List.getElem?_map, e1]; rfl)
    rw [e] at hu
    cases hu
    exact ⟨_, e1, ru⟩
  have hl' := pl.isList
  have hlt : p < s.heap.objs.size := by obtain ⟨_, e, _⟩ := hl'; exact Heap.lt_size e
  have tup : ∀ (i : Nat) (a : Addr), as[i]? = some a → ∃ vs : List Value, IntsAre vs (rows.getD i []) ∧ IsTup s.heap a vs.toArray := fun i a e => by
    have hi : i < rows.length := by rw [← hl]; exact (List.getElem?_eq_some_iff.mp e).1
    have e2 : rows[i]? = some rows[i] := List.getElem?_eq_getElem hi
    obtain ⟨vs, r1, t1, _⟩ := I.tuple (hr i a _ e e2)
    refine ⟨vs, ?_, t1⟩
    rw [List.getD_eq_getElem?_getD, e2]
    exact intsAre_of r1
  have W0 := Walks.list (prog := X.prog) (w := X.w) (A := X.A.in1) (I.ok.hd hc) s.heap.objs.size p (Nat.ne_of_lt hlt) its.toArray
  have new : ∀ a ∈ as, a < s.heap.objs.size := fun a ha => by
    obtain ⟨i, hi, e⟩ := List.mem_iff_getElem.mp ha
    obtain ⟨vs, _, o, e2, _⟩ := tup i a (by rw [List.getElem?_eq_getElem hi, e])
    exact Heap.lt_size e2
  have W : Walks X.prog X.w X.A.in1 s.heap.objs.size ([s.heap.objs.size, p] ++ as) [s.heap.objs.size] its.toArray.size (fun i v => its.toArray[i]? = some v)
      (fun i h => (h.IsListIter s.heap.objs.size p i ∧ h.IsList p its.toArray) ∧ ∀ a ∈ as, ∀ o, s.heap.get? a = some o → h.get? a = some o) := by
    refine ⟨fun b hb => List.mem_append_left _ (W0.sub b hb), fun i h h' st kp => ⟨W0.frame i h h' st.1 (fun b hb => kp b (List.mem_append_left _ hb)), fun a ha o e => kp a (List.mem_append_right _ ha) o (st.2 a ha o e)⟩,
      fun i s' Q' E' hi st hQ => ?_, fun s' Q' E' st hQ => W0.done s' Q' E' st.1 hQ, fun i s' Q' E' st hQ => W0.self i s' Q' E' st.1 hQ⟩
    refine W0.item i s' Q' E' hi st.1 fun v h' tk pv st' kp => hQ v h' tk pv ⟨st', fun a ha o e => kp a o (fun z => ?_) (st.2 a ha o e)⟩ kp
    exact absurd (new a ha) (by rw [List.mem_singleton.mp z]; exact Nat.lt_irrefl _)
  refine least_of (wpAny_pyIter_list hl' ?_)
  refine ⟨s.heap.objs.size, [s.heap.objs.size, p] ++ as, [s.heap.objs.size], its.toArray.size, _, _, fun i j => HT.lexLt (rows.getD i []) (rows.getD j []), rfl, W,
    ⟨⟨⟨_, Heap.get?_push_size _ rfl, rfl, rfl⟩, hl'.push _⟩, fun a _ o e => Heap.get?_push_of_some _ e⟩, fun b hb => ?_, by rw [List.size_toArray]; omega, fun k i j x y s' Q' E' st px py hQ => ?_, fun v h' tk pv kp => ?_⟩
  · show b < (s.heap.push _).objs.size
    rw [Heap.size_push]
    rcases List.mem_append.mp hb with z | z
    · rcases List.mem_cons.mp z with z | z
      · rw [z]; exact Nat.lt_succ_self _
      · rw [List.mem_singleton.mp z]; exact Nat.lt_succ_of_lt hlt
    · exact Nat.lt_succ_of_lt (new b z)
  · obtain ⟨a, ea, rfl⟩ := hit i x (by simpa using px)
    obtain ⟨b, eb, rfl⟩ := hit j y (by simpa using py)
    obtain ⟨vs, i1, o1, g1, c1⟩ := tup i a ea
    obtain ⟨us, i2, o2, g2, c2⟩ := tup j b eb
    exact HT.lt_tupInts (items := vs.toArray) (items2 := us.toArray) ⟨o1, st.2 a (List.mem_of_getElem? ea) o1 g1, c1⟩ ⟨o2, st.2 b (List.mem_of_getElem? eb) o2 g2, c2⟩ i1 i2 (by show X.A.units + 1 < cLine; omega) hQ
  · have pv : its.toArray[argBest (fun i j => HT.lexLt (rows.getD i []) (rows.getD j [])) (its.toArray.size - 1)]? = some v := pv
    rw [List.size_toArray, hlen, hl] at pv
    obtain ⟨a, ea, rfl⟩ := hit _ v (by simpa using pv)
    exact ⟨.ref a, H, I.kept (kept_new kp), rfl, q a ea⟩
theorem count_eqU (k : Bool) : ∀ {bs : List Bool} {us : List Value}, Vals (bs.map V.bl) us → us.countP (eqU (.bl k)) = bs.count k
  | [], _, .nil => rfl
  | b :: bs, _, .cons r t => by
    cases r
    rw [List.countP_cons, count_eqU k t, List.count_cons]
    rfl
theorem flat_bls (bs : List Bool) : (bs.map V.bl).all flatV = true := List.all_eq_true.mpr fun x hx => by
  obtain ⟨b, _, rfl⟩ := List.mem_map.mp hx; rfl
theorem mt_countB : MtM X "list.count" (fun x xs H Q => ∃ (a : Addr) (bs : List Bool) (k : Bool), x = .ref a ∧ xs = [.bl k] ∧ SqL X.K H a (bs.map V.bl) ∧ Q (.int (bs.count k : Nat)) H) := by
  intro pins s σ H x xs v us Q I rx rxs h
  obtain ⟨a, bs, k, rfl, rfl, hs, q⟩ := h
  cases rx
  obtain ⟨u, rfl, ru⟩ := rxs.one
  obtain ⟨its, rv, ⟨⟨cls, dd, data, sl⟩, n, ho, hc, hdn, hd⟩, hlen⟩ := I.list hs
  simp only at hc hd
  subst hc hd
  refine call_meets PySem.F.slot_list_count ⟨_, ho, rfl⟩ PySem.F.entry_list_count (PySem.F.args_list_count_2 _ _) (SeqAt.list_countAt a its.toArray n dd sl u (eqU (.bl k)))
    ⟨ho, fun y hy => mem_eqAt ru rfl rv (flat_bls bs) y (by simpa using hy), ?_⟩
  rw [show its.toArray.toList = its from rfl, count_eqU k rv]
  exact ⟨.int (bs.count k : Nat), H, I.tok _, ⟨_, rfl⟩, q⟩
theorem erase_map_ix {α β : Type} (f : α → β) : ∀ (l : List α) (i : Nat), (l.map f).eraseIdx i = (l.eraseIdx i).map f
  | [], _ => rfl
  | _ :: _, 0 => rfl
  | a :: l, i + 1 => by
    show f a :: (l.map f).eraseIdx i = f a :: (l.eraseIdx i).map f
    rw [erase_map_ix f l i]
theorem mt_removeI : MtM X "list.remove" (fun x xs H Q => ∃ (l : Addr) (ns : List Int) (k : Int), x = .ref l ∧ xs = [.int k] ∧ H l = some (.lst (ns.map V.int)) ∧ k ∈ ns ∧ Q .non (upd H l (.lst ((ns.erase k).map V.int)))) := by
  intro pins s σ H x vs v us Q I rx rv h
  obtain ⟨l, ns, k, rfl, rfl, hH, hk, q⟩ := h
  cases rx
  obtain ⟨u, rfl, ru⟩ := rv.one
  obtain ⟨t, rfl⟩ := ru
  obtain ⟨z, its, n, r, hl, e⟩ := I.lstM hH
  rw [List.length_map] at hl z
  have hi : IntsAre its ns := intsAre_of r
  have hat : ∀ (i : Nat) (h : i < its.length), ∃ t, its[i] = .int (ns[i]'(by omega)) t := fun i h => by
    obtain ⟨u, hu, t, ru⟩ := r.get (show (ns.map V.int)[i]? = some (.int (ns[i]'(by omega))) by rw [List.getElem?_map, List.getElem?_eq_getElem (by omega)]; rfl)
    rw [List.getElem?_eq_getElem h] at hu
    exact ⟨t, (Option.some.inj hu).trans ru⟩
  have hj : ns.idxOf k < ns.length := List.idxOf_lt_length_of_mem hk
  have isI : ∀ (a : Int) (t : Tok), Value.isInt k (.int a t) = decide (a = k) := fun a t => by simp [Value.isInt, Bool.beq_eq_decide_eq]
  refine call_meets PySem.F.slot_list_remove ⟨_, e, rfl⟩ PySem.F.entry_list_remove (PySem.F.args_list_remove_2 _ _)
    (MeetsSeq.list_remove l its.toArray n (.int k t) (Value.isInt k) (fun y hy => ?_) (ns.idxOf k) (by rw [List.size_toArray]; omega) ?_ (fun m hm hlt => ?_) (by rw [List.size_toArray]; omega)) ⟨e, ?_⟩
  · obtain ⟨i, hi, ey⟩ := List.mem_iff_getElem.mp (show y ∈ its by simpa using hy)
    obtain ⟨t', et⟩ := hat i hi
    rw [← ey, et]
    exact MeetsSeq.EqGives.int _ k t' t
  · obtain ⟨t', et⟩ := hat (ns.idxOf k) (by omega)
    rw [show its.toArray[ns.idxOf k] = its[ns.idxOf k] by simp, et, isI]
    exact decide_eq_true (List.getElem_idxOf hj)
  · have hm' : m < its.length := by simpa using hm
    obtain ⟨t', et⟩ := hat m hm'
    rw [show its.toArray[m] = its[m] by simp, et, isI]
    refine decide_eq_false fun q => ?_
    have := List.not_of_lt_findIdx (p := (· == k)) (xs := ns) (show m < ns.findIdx (· == k) from hlt)
    simp [q] at this
  · refine ⟨.non, _, I.lset (its' := its.eraseIdx (ns.idxOf k)) hH e ?_ (r.eraseIdx (ns.idxOf k)) ?_, rfl, ?_⟩
    · show its.toArray.eraseIdxIfInBounds (ns.idxOf k) = (its.eraseIdx (ns.idxOf k)).toArray
      rw [List.eraseIdxIfInBounds_toArray]
    · have := len_erase (ns.map V.int) (ns.idxOf k)
      rw [List.length_map] at this
      omega
    · rw [erase_map_ix, ← List.erase_eq_eraseIdx_of_idxOf rfl]
      exact q
theorem op_in_seqK {K : PySem.W.Frag} (h : X.K = K) : OpR X (compareOp .In) (rIn K false) := h ▸ op_in_seq
end
end L2
set_option Elab.async false
set_option linter.all false
set_option maxRecDepth 100000
set_option maxHeartbeats 2000000
namespace Sr
open PySem PySem.Spec PyProof.Rows L2
open Vbavab (Msg Demand Plan)
def top (i : Nat) : Stmt := PySem.Challenge.pw_slotround_s01_answers.main.body.getD i (.Pass ⟨0, 0, 0, 0⟩)
abbrev s_Message_init : Stmt := inClass (top 5) 0
abbrev s_Demand_init : Stmt := inClass (top 6) 0
abbrev s_common_divisor : Stmt := top 7
abbrev s_keep_apart : Stmt := top 8
abbrev s_collide : Stmt := top 9
abbrev s_is_met : Stmt := top 10
abbrev s_demands_between : Stmt := top 11
abbrev s_lead_fits : Stmt := top 12
abbrev s_both_put : Stmt := top 13
abbrev s_missing_messages : Stmt := top 14
abbrev s_colliding_pairs : Stmt := top 15
abbrev s_unmet_demands : Stmt := top 16
abbrev s_table_faults : Stmt := top 17
abbrev s_room_of : Stmt := top 19
abbrev s_moving_messages : Stmt := top 20
abbrev s_barring_messages : Stmt := top 21
abbrev s_first_unbarred : Stmt := top 22
abbrev s_move_order : Stmt := top 23
abbrev s_goes_on : Stmt := top 25
abbrev s_put_on_bus : Stmt := top 26
abbrev s_message_at : Stmt := top 27
abbrev s_next_message : Stmt := top 28
abbrev s_round_length : Stmt := top 29
abbrev s_bus_load : Stmt := top 30
abbrev s_taken_slots : Stmt := top 31
abbrev s_longest_free_run : Stmt := top 32
abbrev s_longest_wait : Stmt := top 33
abbrev s_pair_leads : Stmt := top 36
abbrev s_fitting_leads : Stmt := top 37
abbrev s_Walk_init : Stmt := inClass (top 38) 0
abbrev s_Walk_is_full : Stmt := inClass (top 38) 1
abbrev s_Walk_enter_message : Stmt := inClass (top 38) 2
abbrev s_Walk_go_back : Stmt := inClass (top 38) 3
abbrev s_Walk_take_step : Stmt := inClass (top 38) 4
abbrev s_search_table : Stmt := top 39
abbrev s_count_tables : Stmt := top 40
abbrev s_Desk_init : Stmt := inClass (top 61) 0
abbrev s_in_ranges : Stmt := top 62
abbrev s_has_message : Stmt := top 63
abbrev s_is_good : Stmt := top 64
abbrev s_as_row : Stmt := top 65
abbrev s_answer_message : Stmt := top 66
abbrev s_answer_demand : Stmt := top 67
abbrev s_answer_put : Stmt := top 68
abbrev s_answer_unput : Stmt := top 69
abbrev s_answer_check : Stmt := top 70
abbrev s_answer_search : Stmt := top 71
abbrev s_answer_count : Stmt := top 72
abbrev s_answer_blame : Stmt := top 73
abbrev s_answer_keep : Stmt := top 74
abbrev s_answer_steps : Stmt := top 75
abbrev s_answer_room : Stmt := top 76
abbrev s_answer_at : Stmt := top 77
abbrev s_answer_next : Stmt := top 78
abbrev s_answer_load : Stmt := top 79
abbrev s_answer_free : Stmt := top 80
abbrev s_answer_wait : Stmt := top 81
abbrev s_answer_table : Stmt := top 82
abbrev s_answer_state : Stmt := top 83
abbrev s_answer_calls : Stmt := top 86
abbrev s_answers : Stmt := top 87
theorem sc_Message_init : FnScope ["self", "period", "length", "earliest", "latest", "buses"] ["self", "period", "length", "earliest", "latest", "buses"] (defScope s_Message_init) := by constructor <;> first | rfl | decide +kernel
theorem sc_Demand_init : FnScope ["self", "kind", "first", "second", "gap"] ["self", "kind", "first", "second", "gap"] (defScope s_Demand_init) := by constructor <;> first | rfl | decide +kernel
theorem sc_common_divisor : FnScope ["one", "other", "rest"] ["one", "other"] (defScope s_common_divisor) := by constructor <;> first | rfl | decide +kernel
theorem sc_keep_apart : FnScope ["first", "second", "lead", "gap", "divisor"] ["first", "second", "lead", "gap"] (defScope s_keep_apart) := by constructor <;> first | rfl | decide +kernel
theorem sc_collide : FnScope ["first", "second", "lead"] ["first", "second", "lead"] (defScope s_collide) := by constructor <;> first | rfl | decide +kernel
theorem sc_is_met : FnScope ["demand", "messages", "lead", "first", "second"] ["demand", "messages", "lead"] (defScope s_is_met) := by constructor <;> first | rfl | decide +kernel
theorem sc_demands_between : FnScope ["demands", "one", "other", "found", "demand"] ["demands", "one", "other"] (defScope s_demands_between) := by constructor <;> first | rfl | decide +kernel
theorem sc_lead_fits : FnScope ["messages", "between", "one", "other", "lead", "demand", "turned"] ["messages", "between", "one", "other", "lead"] (defScope s_lead_fits) := by constructor <;> first | rfl | decide +kernel
theorem sc_both_put : FnScope ["table", "one", "other"] ["table", "one", "other"] (defScope s_both_put) := by constructor <;> first | rfl | decide +kernel
theorem sc_missing_messages : FnScope ["table", "number"] ["table"] (defScope s_missing_messages) := by constructor <;> first | rfl | decide +kernel
theorem sc_colliding_pairs : FnScope ["messages", "table", "pairs", "early", "late", "lead"] ["messages", "table"] (defScope s_colliding_pairs) := by constructor <;> first | rfl | decide +kernel
theorem sc_unmet_demands : FnScope ["messages", "demands", "table", "unmet", "place", "demand", "lead"] ["messages", "demands", "table"] (defScope s_unmet_demands) := by constructor <;> first | rfl | decide +kernel
theorem sc_table_faults : FnScope ["messages", "demands", "table"] ["messages", "demands", "table"] (defScope s_table_faults) := by constructor <;> first | rfl | decide +kernel
theorem sc_room_of : FnScope ["messages", "demands", "table", "number", "room", "other", "between", "x"] ["messages", "demands", "table", "number"] (defScope s_room_of) := by constructor <;> first | rfl | decide +kernel
theorem sc_moving_messages : FnScope ["start", "goal", "number"] ["start", "goal"] (defScope s_moving_messages) := by constructor <;> first | rfl | decide +kernel
theorem sc_barring_messages : FnScope ["messages", "demands", "start", "goal", "number", "barring", "other", "between"] ["messages", "demands", "start", "goal", "number"] (defScope s_barring_messages) := by constructor <;> first | rfl | decide +kernel
theorem sc_first_unbarred : FnScope ["waiting", "barring", "number", "other"] ["waiting", "barring"] (defScope s_first_unbarred) := by constructor <;> first | rfl | decide +kernel
theorem sc_move_order : FnScope ["messages", "demands", "start", "goal", "waiting", "barring", "order", "number"] ["messages", "demands", "start", "goal"] (defScope s_move_order) := by constructor <;> first | rfl | decide +kernel
theorem sc_goes_on : FnScope ["message", "bus"] ["message", "bus"] (defScope s_goes_on) := by constructor <;> first | rfl | decide +kernel
theorem sc_put_on_bus : FnScope ["messages", "table", "bus", "numbers", "number", "message"] ["messages", "table", "bus"] (defScope s_put_on_bus) := by constructor <;> first | rfl | decide +kernel
theorem sc_message_at : FnScope ["messages", "table", "bus", "time", "number", "message"] ["messages", "table", "bus", "time"] (defScope s_message_at) := by constructor <;> first | rfl | decide +kernel
theorem sc_next_message : FnScope ["messages", "table", "bus", "time", "coming", "number", "ahead", "first"] ["messages", "table", "bus", "time"] (defScope s_next_message) := by constructor <;> first | rfl | decide +kernel
theorem sc_round_length : FnScope ["messages", "length", "message"] ["messages"] (defScope s_round_length) := by constructor <;> first | rfl | decide +kernel
theorem sc_bus_load : FnScope ["messages", "bus", "going", "slots", "taken", "divisor", "message"] ["messages", "bus"] (defScope s_bus_load) := by constructor <;> first | rfl | decide +kernel
theorem sc_taken_slots : FnScope ["messages", "table", "bus", "slots", "taken", "number", "message", "beginning", "slot"] ["messages", "table", "bus"] (defScope s_taken_slots) := by constructor <;> first | rfl | decide +kernel
theorem sc_longest_free_run : FnScope ["taken", "turn", "longest", "run", "is_taken"] ["taken"] (defScope s_longest_free_run) := by constructor <;> first | rfl | decide +kernel
theorem sc_longest_wait : FnScope ["ending", "coming", "lead", "divisor"] ["ending", "coming", "lead"] (defScope s_longest_wait) := by constructor <;> first | rfl | decide +kernel
theorem sc_pair_leads : FnScope ["messages", "demands", "early", "late", "between", "least", "greatest", "bits", "lead"] ["messages", "demands", "early", "late"] (defScope s_pair_leads) := by constructor <;> first | rfl | decide +kernel
theorem sc_fitting_leads : FnScope ["messages", "demands", "rows", "late", "early"] ["messages", "demands"] (defScope s_fitting_leads) := by constructor <;> first | rfl | decide +kernel
theorem sc_Walk_init : FnScope ["self", "messages", "leads", "size", "budget"] ["self", "messages", "leads", "size", "budget"] (defScope s_Walk_init) := by constructor <;> first | rfl | decide +kernel
theorem sc_Walk_is_full : FnScope ["self"] ["self"] (defScope s_Walk_is_full) := by constructor <;> first | rfl | decide +kernel
theorem sc_Walk_enter_message : FnScope ["self", "number", "message", "room", "early", "beginning"] ["self"] (defScope s_Walk_enter_message) := by constructor <;> first | rfl | decide +kernel
theorem sc_Walk_go_back : FnScope ["self"] ["self"] (defScope s_Walk_go_back) := by constructor <;> first | rfl | decide +kernel
theorem sc_Walk_take_step : FnScope ["self", "number"] ["self"] (defScope s_Walk_take_step) := by constructor <;> first | rfl | decide +kernel
theorem sc_search_table : FnScope ["messages", "leads", "size", "budget", "walk"] ["messages", "leads", "size", "budget"] (defScope s_search_table) := by constructor <;> first | rfl | decide +kernel
theorem sc_count_tables : FnScope ["messages", "leads", "size", "budget", "walk"] ["messages", "leads", "size", "budget"] (defScope s_count_tables) := by constructor <;> first | rfl | decide +kernel
theorem sc_Desk_init : FnScope ["self"] ["self"] (defScope s_Desk_init) := by constructor <;> first | rfl | decide +kernel
theorem sc_in_ranges : FnScope ["numbers", "ranges", "number", "bounds"] ["numbers", "ranges"] (defScope s_in_ranges) := by constructor <;> first | rfl | decide +kernel
theorem sc_has_message : FnScope ["desk", "number"] ["desk", "number"] (defScope s_has_message) := by constructor <;> first | rfl | decide +kernel
theorem sc_is_good : FnScope ["desk", "table"] ["desk", "table"] (defScope s_is_good) := by constructor <;> first | rfl | decide +kernel
theorem sc_as_row : FnScope ["numbers"] ["numbers"] (defScope s_as_row) := by constructor <;> first | rfl | decide +kernel
theorem sc_answer_message : FnScope ["desk", "numbers", "message"] ["desk", "numbers"] (defScope s_answer_message) := by constructor <;> first | rfl | decide +kernel
theorem sc_answer_demand : FnScope ["desk", "numbers", "demand"] ["desk", "numbers"] (defScope s_answer_demand) := by constructor <;> first | rfl | decide +kernel
theorem sc_answer_put : FnScope ["desk", "numbers", "number", "beginning"] ["desk", "numbers"] (defScope s_answer_put) := by constructor <;> first | rfl | decide +kernel
theorem sc_answer_unput : FnScope ["desk", "numbers", "number"] ["desk", "numbers"] (defScope s_answer_unput) := by constructor <;> first | rfl | decide +kernel
theorem sc_answer_check : FnScope ["desk", "numbers", "wrong", "answer", "fault"] ["desk", "numbers"] (defScope s_answer_check) := by constructor <;> first | rfl | decide +kernel
theorem sc_answer_search : FnScope ["desk", "numbers", "leads", "walk"] ["desk", "numbers"] (defScope s_answer_search) := by constructor <;> first | rfl | decide +kernel
theorem sc_answer_count : FnScope ["desk", "numbers", "leads", "walk"] ["desk", "numbers"] (defScope s_answer_count) := by constructor <;> first | rfl | decide +kernel
theorem sc_answer_blame : FnScope ["desk", "numbers", "leads", "size", "walk"] ["desk", "numbers"] (defScope s_answer_blame) := by constructor <;> first | rfl | decide +kernel
theorem sc_answer_keep : FnScope ["desk", "numbers"] ["desk", "numbers"] (defScope s_answer_keep) := by constructor <;> first | rfl | decide +kernel
theorem sc_answer_steps : FnScope ["desk", "numbers", "order"] ["desk", "numbers"] (defScope s_answer_steps) := by constructor <;> first | rfl | decide +kernel
theorem sc_answer_room : FnScope ["desk", "numbers"] ["desk", "numbers"] (defScope s_answer_room) := by constructor <;> first | rfl | decide +kernel
theorem sc_answer_at : FnScope ["desk", "numbers", "number"] ["desk", "numbers"] (defScope s_answer_at) := by constructor <;> first | rfl | decide +kernel
theorem sc_answer_next : FnScope ["desk", "numbers", "coming"] ["desk", "numbers"] (defScope s_answer_next) := by constructor <;> first | rfl | decide +kernel
theorem sc_answer_load : FnScope ["desk", "numbers"] ["desk", "numbers"] (defScope s_answer_load) := by constructor <;> first | rfl | decide +kernel
theorem sc_answer_free : FnScope ["desk", "numbers", "taken"] ["desk", "numbers"] (defScope s_answer_free) := by constructor <;> first | rfl | decide +kernel
theorem sc_answer_wait : FnScope ["desk", "numbers", "ending", "coming", "lead"] ["desk", "numbers"] (defScope s_answer_wait) := by constructor <;> first | rfl | decide +kernel
theorem sc_answer_table : FnScope ["desk", "numbers"] ["desk", "numbers"] (defScope s_answer_table) := by constructor <;> first | rfl | decide +kernel
theorem sc_answer_state : FnScope ["desk", "numbers", "answer", "message", "demand", "kept"] ["desk", "numbers"] (defScope s_answer_state) := by constructor <;> first | rfl | decide +kernel
theorem sc_answer_calls : FnScope ["desk", "calls", "given", "start", "place", "behind", "handler", "answer"] ["desk", "calls"] (defScope s_answer_calls) := by constructor <;> first | rfl | decide +kernel
theorem sc_answers : FnScope ["calls"] ["calls"] (defScope s_answers) := by constructor <;> first | rfl | decide +kernel
def CstAt (mg : Str → Option Value) (x : Str) (v : V) : Prop := ∃ u, mg x = some u ∧ RelV v u
theorem pe_cst {X : Cx} {x : Str} {v : V} {pos : Pos} (hg : Gl X x) (h : CstAt X.mg x v) (hd : (x == ("__debug__" : Str)) = false := by decide) : PE X (.Name x pos) (tC v) := by
  obtain ⟨u, hm, r⟩ := h
  exact pe_glob hg hm r hd
def KTup (K : PySem.W.Frag) (a : Addr) (xs : List V) : Prop := ∃ (o : Obj) (its : Array Value) (n : Nat), K.lookup a = some o ∧ o.cls = .type "tuple" ∧ o.data = .seq its n ∧ its.size ≤ sizeLine ∧ Vals xs its.toList
theorem KTup.sq {K : PySem.W.Frag} {H : Hp} {a : Addr} {xs : List V} (h : KTup K a xs) : SqT K H a xs := .inr h
def RangesAt (K : PySem.W.Frag) (t : Addr) (rs : List (Int × Int)) : Prop := ∃ as : List Addr, KTup K t (as.map V.ref) ∧ as.length = rs.length ∧ ∀ (i : Nat) (a : Addr) (r : Int × Int), as[i]? = some a → rs[i]? = some r → KTup K a [.int r.1, .int r.2]
structure Adr where
  cMessage : Addr
  cDemand : Addr
  cWalk : Addr
  cDesk : Addr
  t_MESSAGE_RANGES : Addr
  t_KIND_AND_GAP_RANGES : Addr
  t_BEGINNING_RANGES : Addr
  t_BUDGET_RANGES : Addr
  t_BUS_RANGES : Addr
  t_BUS_AND_TIME_RANGES : Addr
  t_HANDLERS : Addr
  t_ARGUMENTS : Addr
  f_answer_message : Addr
  f_answer_demand : Addr
  f_answer_put : Addr
  f_answer_unput : Addr
  f_answer_check : Addr
  f_answer_search : Addr
  f_answer_count : Addr
  f_answer_blame : Addr
  f_answer_keep : Addr
  f_answer_steps : Addr
  f_answer_room : Addr
  f_answer_at : Addr
  f_answer_next : Addr
  f_answer_load : Addr
  f_answer_free : Addr
  f_answer_wait : Addr
  f_answer_table : Addr
  f_answer_state : Addr
structure Txt (K : PySem.W.Frag) (mg : Str → Option Value) (A : Adr) : Prop where
  any : mg "any" = none
  enumerate : mg "enumerate" = none
  len : mg "len" = none
  list : mg "list" = none
  max : mg "max" = none
  min : mg "min" = none
  range : mg "range" = none
  sum : mg "sum" = none
  zip : mg "zip" = none
  g_NOT_PUT : CstAt mg "NOT_PUT" (.int (-1))
  g_FAULT_NOT_PUT : CstAt mg "FAULT_NOT_PUT" (.int 1)
  g_FAULT_COLLIDE : CstAt mg "FAULT_COLLIDE" (.int 2)
  g_FAULT_DEMAND : CstAt mg "FAULT_DEMAND" (.int 3)
  g_LEAD_SHIFT : CstAt mg "LEAD_SHIFT" (.int 63)
  g_OUT_OF_RANGE : CstAt mg "OUT_OF_RANGE" (.int (-1))
  g_NO_MESSAGE : CstAt mg "NO_MESSAGE" (.int (-4))
  g_NO_FIT : CstAt mg "NO_FIT" (.int (-5))
  g_NONE_THERE : CstAt mg "NONE_THERE" (.int (-6))
  g_NOTHING_PUT : CstAt mg "NOTHING_PUT" (.int (-7))
  g_FULL : CstAt mg "FULL" (.int (-8))
  g_UNLIKE_PERIODS : CstAt mg "UNLIKE_PERIODS" (.int (-9))
  g_SPENT : CstAt mg "SPENT" (.int (-10))
  g_NOT_GOOD : CstAt mg "NOT_GOOD" (.int (-11))
  g_TOO_LONG : CstAt mg "TOO_LONG" (.int (-12))
  g_MOST_MESSAGES : CstAt mg "MOST_MESSAGES" (.int 8)
  g_MOST_DEMANDS : CstAt mg "MOST_DEMANDS" (.int 16)
  g_LONGEST_ROUND : CstAt mg "LONGEST_ROUND" (.int 5000)
  g_MESSAGE_RANGES : CstAt mg "MESSAGE_RANGES" (.ref A.t_MESSAGE_RANGES)
  r_MESSAGE_RANGES : RangesAt K A.t_MESSAGE_RANGES [(1, 64), (1, 64), (0, 63), (0, 63), (1, 3)]
  g_KIND_AND_GAP_RANGES : CstAt mg "KIND_AND_GAP_RANGES" (.ref A.t_KIND_AND_GAP_RANGES)
  r_KIND_AND_GAP_RANGES : RangesAt K A.t_KIND_AND_GAP_RANGES [(0, 1), (0, 64)]
  g_BEGINNING_RANGES : CstAt mg "BEGINNING_RANGES" (.ref A.t_BEGINNING_RANGES)
  r_BEGINNING_RANGES : RangesAt K A.t_BEGINNING_RANGES [(0, 63)]
  g_BUDGET_RANGES : CstAt mg "BUDGET_RANGES" (.ref A.t_BUDGET_RANGES)
  r_BUDGET_RANGES : RangesAt K A.t_BUDGET_RANGES [(1, 20000)]
  g_BUS_RANGES : CstAt mg "BUS_RANGES" (.ref A.t_BUS_RANGES)
  r_BUS_RANGES : RangesAt K A.t_BUS_RANGES [(0, 1)]
  g_BUS_AND_TIME_RANGES : CstAt mg "BUS_AND_TIME_RANGES" (.ref A.t_BUS_AND_TIME_RANGES)
  r_BUS_AND_TIME_RANGES : RangesAt K A.t_BUS_AND_TIME_RANGES [(0, 1), (0, 1000000000000000000)]
  g_HANDLERS : CstAt mg "HANDLERS" (.ref A.t_HANDLERS)
  r_HANDLERS : KTup K A.t_HANDLERS [.ref A.f_answer_message, .ref A.f_answer_demand, .ref A.f_answer_put, .ref A.f_answer_unput, .ref A.f_answer_check, .ref A.f_answer_search, .ref A.f_answer_count, .ref A.f_answer_blame, .ref A.f_answer_keep, .ref A.f_answer_steps, .ref A.f_answer_room, .ref A.f_answer_at, .ref A.f_answer_next, .ref A.f_answer_load, .ref A.f_answer_free, .ref A.f_answer_wait, .ref A.f_answer_table, .ref A.f_answer_state]
  g_ARGUMENTS : CstAt mg "ARGUMENTS" (.ref A.t_ARGUMENTS)
  r_ARGUMENTS : KTup K A.t_ARGUMENTS [.int 5, .int 4, .int 2, .int 1, .int 0, .int 1, .int 1, .int 1, .int 0, .int 0, .int 1, .int 2, .int 2, .int 1, .int 1, .int 2, .int 0, .int 0]
  clMessage : Cls K A.cMessage
  nMessage_period : NoAttr K A.cMessage "period"
  nMessage_length : NoAttr K A.cMessage "length"
  nMessage_earliest : NoAttr K A.cMessage "earliest"
  nMessage_latest : NoAttr K A.cMessage "latest"
  nMessage_buses : NoAttr K A.cMessage "buses"
  clDemand : Cls K A.cDemand
  nDemand_kind : NoAttr K A.cDemand "kind"
  nDemand_first : NoAttr K A.cDemand "first"
  nDemand_second : NoAttr K A.cDemand "second"
  nDemand_gap : NoAttr K A.cDemand "gap"
  clWalk : Cls K A.cWalk
  nWalk_messages : NoAttr K A.cWalk "messages"
  nWalk_leads : NoAttr K A.cWalk "leads"
  nWalk_size : NoAttr K A.cWalk "size"
  nWalk_budget : NoAttr K A.cWalk "budget"
  nWalk_chosen : NoAttr K A.cWalk "chosen"
  nWalk_looked : NoAttr K A.cWalk "looked"
  nWalk_rooms : NoAttr K A.cWalk "rooms"
  nWalk_tables : NoAttr K A.cWalk "tables"
  nWalk_ended : NoAttr K A.cWalk "ended"
  clDesk : Cls K A.cDesk
  nDesk_messages : NoAttr K A.cDesk "messages"
  nDesk_demands : NoAttr K A.cDesk "demands"
  nDesk_table : NoAttr K A.cDesk "table"
  nDesk_kept : NoAttr K A.cDesk "kept"
theorem ix_listK {X : Cx} {K : PySem.W.Frag} (h : X.K = K) : IxR X (rIxL K) := h ▸ ix_list
theorem pe_fldK {X : Cx} {K : PySem.W.Frag} {e : Expr} {f : Str} {pos : Pos} {ta : TE} (h : X.K = K) (he : PE X e ta) (hb : attributeBase e f X.env (eval e X.env) = eval e X.env) : PE X (.Attribute e f pos) (tFld K ta f) := h ▸ pe_fld he hb
structure Cal (P : Program) (w : World) (K : PySem.W.Frag) (mg : Str → Option Value) (base : Heap) (k : Nat) (x : Str) (f : Addr) (fd : FuncData) (ps : List Str) (sp : Sp) : Prop where
  ok : FnOk P w K mg base CX0 k f fd ps sp
  gm : mg x = some (.ref f)
  kp : PySem.W.keepIn K (.ref f) = true
  b : Binds K fd ps []
def CalX (P : Program) (w : World) (K : PySem.W.Frag) (mg : Str → Option Value) (base : Heap) (k : Nat) (x : Str) (ps : List Str) (sp : Sp) : Prop := ∃ f fd, Cal P w K mg base k x f fd ps sp
structure MkC (P : Program) (w : World) (K : PySem.W.Frag) (mg : Str → Option Value) (base : Heap) (k : Nat) (x : Str) (C : Addr) (f : Addr) (fd : FuncData) (ps : List Str) (sp : Sp) : Prop where
  ok : FnOk P w K mg base CX0 k f fd ps sp
  mkC : Mk K C f
  gm : mg x = some (.ref C)
  b : Binds K fd ps []
def MkX (P : Program) (w : World) (K : PySem.W.Frag) (mg : Str → Option Value) (base : Heap) (k : Nat) (x : Str) (C : Addr) (ps : List Str) (sp : Sp) : Prop := ∃ f fd, MkC P w K mg base k x C f fd ps sp
structure MtC (P : Program) (w : World) (K : PySem.W.Frag) (mg : Str → Option Value) (base : Heap) (k : Nat) (C : Addr) (m : Str) (f : Addr) (fd : FuncData) (ps : List Str) (sp : Sp) : Prop where
  ok : FnOk P w K mg base CX0 k f fd ps sp
  me : Meth K C m f
  b : Binds K fd ps []
def MtX (P : Program) (w : World) (K : PySem.W.Frag) (mg : Str → Option Value) (base : Heap) (k : Nat) (C : Addr) (m : Str) (ps : List Str) (sp : Sp) : Prop := ∃ f fd, MtC P w K mg base k C m f fd ps sp
def HdX (P : Program) (w : World) (K : PySem.W.Frag) (mg : Str → Option Value) (base : Heap) (k : Nat) (f : Addr) (ps : List Str) (sp : Sp) : Prop := ∃ fd, FnOk P w K mg base CX0 k f fd ps sp ∧ PySem.W.keepIn K (.ref f) = true ∧ Binds K fd ps []
abbrev nm (s : String) : Str := Str.ofString s
def msgF (m : Msg) : List (Str × V) := [(nm "period", .int m.period), (nm "length", .int m.len), (nm "earliest", .int m.early), (nm "latest", .int m.late), (nm "buses", .int m.buses)]
def demF (d : Demand) : List (Str × V) := [(nm "kind", .int d.kind), (nm "first", .int d.a), (nm "second", .int d.b), (nm "gap", .int d.gap)]
def MsgAt (A : Adr) (H : Hp) (a : Addr) (m : Msg) : Prop := ∃ dx, H a = some (.ins A.cMessage dx (msgF m))
def DemAt (A : Adr) (H : Hp) (a : Addr) (d : Demand) : Prop := ∃ dx, H a = some (.ins A.cDemand dx (demF d))
theorem MsgAt.keep {A : Adr} {H H' : Hp} {a : Addr} {m : Msg} (h : MsgAt A H a m) (s : Same H H') : MsgAt A H' a m := let ⟨dx, e⟩ := h; ⟨dx, s _ _ e⟩
theorem DemAt.keep {A : Adr} {H H' : Hp} {a : Addr} {d : Demand} (h : DemAt A H a d) (s : Same H H') : DemAt A H' a d := let ⟨dx, e⟩ := h; ⟨dx, s _ _ e⟩
structure MsgsAt (A : Adr) (H : Hp) (l : Addr) (ms : List Msg) : Prop where
  ex : ∃ as : List Addr, H l = some (.lst (as.map V.ref)) ∧ as.length = ms.length ∧ ∀ (i : Nat) (a : Addr) (m : Msg), as[i]? = some a → ms[i]? = some m → MsgAt A H a m
structure DemsAt (A : Adr) (H : Hp) (l : Addr) (ds : List Demand) : Prop where
  ex : ∃ as : List Addr, H l = some (.lst (as.map V.ref)) ∧ as.length = ds.length ∧ ∀ (i : Nat) (a : Addr) (d : Demand), as[i]? = some a → ds[i]? = some d → DemAt A H a d
theorem MsgsAt.keep {A : Adr} {H H' : Hp} {l : Addr} {ms : List Msg} (h : MsgsAt A H l ms) (s : Same H H') : MsgsAt A H' l ms := by
  obtain ⟨as, h1, h2, h3⟩ := h.ex
  exact ⟨as, s _ _ h1, h2, fun i a m e1 e2 => (h3 i a m e1 e2).keep s⟩
theorem DemsAt.keep {A : Adr} {H H' : Hp} {l : Addr} {ds : List Demand} (h : DemsAt A H l ds) (s : Same H H') : DemsAt A H' l ds := by
  obtain ⟨as, h1, h2, h3⟩ := h.ex
  exact ⟨as, s _ _ h1, h2, fun i a m e1 e2 => (h3 i a m e1 e2).keep s⟩
theorem at_ref {as : List Addr} {i : Nat} {a : Addr} (e : as[i]? = some a) : atI (as.map V.ref) (i : Int) = some (.ref a) := atI_nat (by rw [List.getElem?_map, e]; rfl)
theorem at_int {ns : List Int} {i : Nat} {a : Int} (e : ns[i]? = some a) : atI (ns.map V.int) (i : Int) = some (.int a) := atI_nat (by rw [List.getElem?_map, e]; rfl)
theorem MsgsAt.adr {A : Adr} {H : Hp} {l : Addr} {ms : List Msg} (h : MsgsAt A H l ms) : ∃ as : List Addr, H l = some (.lst (as.map V.ref)) ∧ as.length = ms.length ∧ ∀ (i : Nat), i < ms.length → ∃ a dx, as[i]? = some a ∧ H a = some (.ins A.cMessage dx (msgF (Sm.gm ms i))) := by
  obtain ⟨as, h1, h2, h3⟩ := h.ex
  refine ⟨as, h1, h2, fun i hi => ?_⟩
  have e1 : as[i]? = some (as[i]'(by omega)) := List.getElem?_eq_getElem (by omega)
  obtain ⟨dx, e⟩ := h3 i _ _ e1 (Sm.gm_at hi)
  exact ⟨_, dx, e1, e⟩
theorem DemsAt.adr {A : Adr} {H : Hp} {l : Addr} {ds : List Demand} (h : DemsAt A H l ds) : ∃ as : List Addr, H l = some (.lst (as.map V.ref)) ∧ as.length = ds.length ∧ ∀ (i : Nat) (d : Demand), ds[i]? = some d → ∃ a dx, as[i]? = some a ∧ H a = some (.ins A.cDemand dx (demF d)) := by
  obtain ⟨as, h1, h2, h3⟩ := h.ex
  refine ⟨as, h1, h2, fun i d hi => ?_⟩
  have hl := (List.getElem?_eq_some_iff.mp hi).1
  have e1 : as[i]? = some (as[i]'(by omega)) := List.getElem?_eq_getElem (by omega)
  obtain ⟨dx, e⟩ := h3 i _ _ e1 hi
  exact ⟨_, dx, e1, e⟩
theorem _root_.L2.Same.new {H H' : Hp} {p : Addr} {o : HO} (s : Same H H') (h : H p = none) : Same H (upd H' p o) := fun b u e => by
  rw [upd_ne (ne_of_none e h)]
  exact s b u e
theorem _root_.L2.Same.put {H : Hp} {p : Addr} {o : HO} (h : H p = none) : Same H (upd H p o) := Same.new (Same.refl H) h
structure TupsAt (H : Hp) (l : Addr) (rows : List (List Int)) : Prop where
  ex : ∃ as : List Addr, H l = some (.lst (as.map V.ref)) ∧ as.length = rows.length ∧ ∀ (i : Nat) (a : Addr) (r : List Int), as[i]? = some a → rows[i]? = some r → H a = some (.tup (r.map V.int))
theorem TupsAt.keep {H H' : Hp} {l : Addr} {rows : List (List Int)} (h : TupsAt H l rows) (s : Same H H') : TupsAt H' l rows := by
  obtain ⟨as, h1, h2, h3⟩ := h.ex
  exact ⟨as, s _ _ h1, h2, fun i a r e1 e2 => s _ _ (h3 i a r e1 e2)⟩
theorem TupsAt.nil {H : Hp} {l : Addr} : TupsAt (upd H l (.lst [])) l [] := ⟨[], upd_same, rfl, fun i a r e _ => by simp at e⟩
theorem TupsAt.lst {H : Hp} {l : Addr} {rows : List (List Int)} (h : TupsAt H l rows) : ∃ xs : List V, H l = some (.lst xs) ∧ xs.length = rows.length := by
  obtain ⟨as, h1, h2, h3⟩ := h.ex
  exact ⟨_, h1, by rw [List.length_map, h2]⟩
theorem TupsAt.push {H : Hp} {l t : Addr} {rows : List (List Int)} {r : List Int} {xs : List V} (h : TupsAt H l rows) (ht : H t = none) (hx : (upd H t (.tup (r.map V.int))) l = some (.lst xs)) :
    TupsAt (upd (upd H t (.tup (r.map V.int))) l (.lst (xs ++ [.ref t]))) l (rows ++ [r]) := by
  obtain ⟨as, h1, h2, h3⟩ := h.ex
  have nl : l ≠ t := ne_of_none h1 ht
  rw [upd_ne nl, h1] at hx
  have ex : xs = as.map V.ref := by injection hx with e; injection e with e; exact e.symm
  subst ex
  refine ⟨as ++ [t], by rw [upd_same, List.map_append]; rfl, by simp [h2], fun i a r' e1 e2 => ?_⟩
  by_cases hi : i < as.length
  · rw [List.getElem?_append_left hi] at e1
    rw [List.getElem?_append_left (by omega)] at e2
    have q := h3 i a r' e1 e2
    rw [upd_ne (ne_of q h1 (by intro z; cases z)), upd_ne (ne_of_none q ht)]
    exact q
  · rw [List.getElem?_append_right (by omega)] at e1 e2
    have hl := (List.getElem?_eq_some_iff.mp e1).1
    have z : i - as.length = 0 := by simp at hl; omega
    rw [z] at e1
    rw [← h2, z] at e2
    have ea : t = a := Option.some.inj e1
    have er : r = r' := Option.some.inj e2
    subst ea er
    rw [upd_ne nl.symm, upd_same]
theorem TupsAt.cat {H : Hp} {l k p : Addr} {rows rows' : List (List Int)} {xs ys : List V} (h : TupsAt H l rows) (h' : TupsAt H k rows') (hx : H l = some (.lst xs)) (hy : H k = some (.lst ys)) (hp : H p = none) : TupsAt (upd H p (.lst (xs ++ ys))) p (rows ++ rows') := by
  obtain ⟨as, h1, h2, h3⟩ := h.ex
  obtain ⟨bs, g1, g2, g3⟩ := h'.ex
  rw [h1] at hx
  rw [g1] at hy
  have ex : xs = as.map V.ref := by injection hx with e; injection e with e; exact e.symm
  have ey : ys = bs.map V.ref := by injection hy with e; injection e with e; exact e.symm
  subst ex ey
  refine ⟨as ++ bs, by rw [upd_same, List.map_append], by simp [h2, g2], fun i a r e1 e2 => ?_⟩
  by_cases hi : i < as.length
  · rw [List.getElem?_append_left hi] at e1
    rw [List.getElem?_append_left (by omega)] at e2
    have q := h3 i a r e1 e2
    rw [upd_ne (ne_of_none q hp)]
    exact q
  · rw [List.getElem?_append_right (by omega)] at e1 e2
    rw [← h2] at e2
    have q := g3 _ a r e1 e2
    rw [upd_ne (ne_of_none q hp)]
    exact q
theorem for_enum {K : PySem.W.Frag} {a : Addr} {xs : List V} {g : TG} {tb : TS} {D : Ends} {σ : L2.St} {H : Hp} (Pv : Nat → L2.St → Hp → Prop) (h0 : Pv 0 σ H) (hl : ∀ i σ H, i ≤ xs.length → Pv i σ H → SqL K H a xs)
    (hs : ∀ i x σ H T, xs[i]? = some x → H T = none → Pv i σ H → g (.ref T) σ (upd H T (.tup [.int (i : Nat), x])) fun σ2 H2 => tb { D with nx := Pv (i + 1), ct := Pv (i + 1), bk := D.nx } σ2 H2) (hd : ∀ σ H, Pv xs.length σ H → D.nx σ H) :
    ∃ W : Nat → Nat → L2.St → Hp → Prop, (∃ m, W 0 m σ H) ∧ ∀ i m σ H, W i m σ H →
      ((Ite K a).stop i H ∧ D.nx σ H) ∨ ((Ite K a).go i H ∧ ∃ N : L2.St → Hp → Prop, (∀ σ' H', N σ' H' → ∃ m', m' < m ∧ W (i + 1) m' σ' H') ∧ ∀ x H', (Ite K a).yld i H x H' → g x σ H' fun σ2 H2 => tb { D with nx := N, ct := N, bk := D.nx } σ2 H2) := by
  refine ⟨fun i m σ H => m = xs.length - i ∧ i ≤ xs.length ∧ Pv i σ H, ⟨xs.length, by simp, Nat.zero_le _, h0⟩, ?_⟩
  rintro i m σ H ⟨rfl, hi, p⟩
  have q := hl i σ H hi p
  by_cases hlt : i < xs.length
  · refine .inr ⟨⟨xs, xs[i], q, by simp [hlt]⟩, Pv (i + 1), fun σ' H' p' => ⟨xs.length - (i + 1), by omega, rfl, hlt, p'⟩, fun x H' y => ?_⟩
    obtain ⟨T, z, rfl, hT, rfl, y⟩ := y
    exact hs i z σ _ T (y xs q) hT p
  · have e : i = xs.length := by omega
    subst e
    exact .inl ⟨⟨xs, q, Nat.le_refl _⟩, hd σ H p⟩
theorem line_of {n : Nat} (h : n ≤ 1000000) : n < sizeLine := Nat.lt_of_le_of_lt h (by decide)
end Sr
set_option Elab.async false
set_option linter.all false
set_option maxRecDepth 100000
set_option maxHeartbeats 2000000
namespace Sr
open PySem PySem.Spec PyProof.Rows L2
open Vbavab (Msg Demand Plan)
open Sm
def sp_common_divisor (K : PySem.W.Frag) (A : Adr) : Sp := fun vs H Q _ => ∃ a b : Nat, vs = [.int a, .int b] ∧ Q (.int (Nat.gcd a b : Nat)) H
def sp_keep_apart (K : PySem.W.Frag) (A : Adr) : Sp := fun vs H Q _ => ∃ (a b : Addr) (lead : Int) (gap : Nat) (m n : Msg), vs = [.ref a, .ref b, .int lead, .int gap] ∧ MsgAt A H a m ∧ MsgAt A H b n ∧ OkM m ∧ Q (.bl (apartL m n lead gap)) H
def sp_collide (K : PySem.W.Frag) (A : Adr) : Sp := fun vs H Q _ => ∃ (a b : Addr) (lead : Int) (m n : Msg), vs = [.ref a, .ref b, .int lead] ∧ MsgAt A H a m ∧ MsgAt A H b n ∧ OkM m ∧ Q (.bl (colL m n lead)) H
def sp_is_met (K : PySem.W.Frag) (A : Adr) : Sp := fun vs H Q _ => ∃ (a l : Addr) (lead : Int) (d : Demand) (ms : List Msg), vs = [.ref a, .ref l, .int lead] ∧ DemAt A H a d ∧ MsgsAt A H l ms ∧ (∀ m ∈ ms, OkM m) ∧ d.a < ms.length ∧ d.b < ms.length ∧ Q (.bl (metL ms d lead)) H
def sp_both_put (K : PySem.W.Frag) (A : Adr) : Sp := fun vs H Q _ => ∃ (l : Addr) (t : List (Option Nat)) (i j : Nat), vs = [.ref l, .int i, .int j] ∧ H l = some (.lst ((tabI t).map V.int)) ∧ i < t.length ∧ j < t.length ∧
  Q (.bl ((Vbavab.beginOf t i).isSome && (Vbavab.beginOf t j).isSome)) H
def sp_missing_messages (K : PySem.W.Frag) (A : Adr) : Sp := fun vs H Q _ => ∃ (l : Addr) (t : List (Option Nat)), vs = [.ref l] ∧ H l = some (.lst ((tabI t).map V.int)) ∧ t.length ≤ 8 ∧ ∀ (H' : Hp) (p : Addr), Same H H' → TupsAt H' p (missR t t.length) → Q (.ref p) H'
def sp_colliding_pairs (K : PySem.W.Frag) (A : Adr) : Sp := fun vs H Q _ => ∃ (lm l : Addr) (s : Plan) (t : List (Option Nat)), vs = [.ref lm, .ref l] ∧ MsgsAt A H lm s.msgs ∧ H l = some (.lst ((tabI t).map V.int)) ∧ OkP s ∧ t.length = s.msgs.length ∧
  ∀ (H' : Hp) (p : Addr), Same H H' → TupsAt H' p (pairR s t s.msgs.length s.msgs.length) → Q (.ref p) H'
def sp_unmet_demands (K : PySem.W.Frag) (A : Adr) : Sp := fun vs H Q _ => ∃ (lm ld l : Addr) (s : Plan) (t : List (Option Nat)), vs = [.ref lm, .ref ld, .ref l] ∧ MsgsAt A H lm s.msgs ∧ DemsAt A H ld s.demands ∧ H l = some (.lst ((tabI t).map V.int)) ∧ OkP s ∧ t.length = s.msgs.length ∧
  ∀ (H' : Hp) (p : Addr), Same H H' → TupsAt H' p (demR s t s.demands.length) → Q (.ref p) H'
def sp_table_faults (K : PySem.W.Frag) (A : Adr) : Sp := fun vs H Q _ => ∃ (lm ld l : Addr) (s : Plan) (t : List (Option Nat)), vs = [.ref lm, .ref ld, .ref l] ∧ MsgsAt A H lm s.msgs ∧ DemsAt A H ld s.demands ∧ H l = some (.lst ((tabI t).map V.int)) ∧ OkP s ∧ t.length = s.msgs.length ∧
  ∀ (H' : Hp) (p : Addr), Same H H' → TupsAt H' p ((Vbavab.wrongs s t).map rowW) → Q (.ref p) H'
section
variable {P : Program} {w : World} {K : PySem.W.Frag} {mg : Str → Option Value} {base : Heap} {A : Adr}
theorem ok_common_divisor {f : Addr} {fd : FuncData} (F : Fun K "common_divisor" "common_divisor" s_common_divisor f fd) (T : Txt K mg A) : FnOk P w K mg base CX0 1 f fd ["one", "other"] (sp_common_divisor K A) := by
  have nd := sc_common_divisor.nd
  refine F.ok sc_common_divisor (fun vs H Q E h => ?_) (fun cdv Ar outer s H vs Q E hr h => ?_)
  · obtain ⟨a, b, rfl, k⟩ := h; rfl
  obtain ⟨a, b, rfl, k⟩ := h
  refine ⟨_, (pss_cons (ps_while PassesOwn.never (pt_cmpR op_gt (pv 1) pe_int (nomark _))
 (pss_cons (ps_set (i := 2) nd rfl (Or.inl rfl) (pe_op op_mod (pv 0) (pv 1)))
 (pss_cons (ps_set (i := 0) nd rfl (Or.inl rfl) (pv 1))
 (pss_one (ps_set (i := 1) nd rfl (Or.inl rfl) (pv 2))))))
 (pss_one (ps_ret (pv 0)))), ?_⟩
  refine ⟨fun m σ H' => H' = H ∧ ∃ (x y : Nat) (v : Option V), σ = [some (.int x), some (.int y), v] ∧ y = m ∧ Nat.gcd x y = Nat.gcd a b, ⟨b, rfl, a, b, none, rfl, rfl, rfl⟩, ?_⟩
  rintro m σ H' ⟨rfl, x, y, v, rfl, rfl, e⟩
  refine ⟨_, rfl, _, _, rfl, rfl, _, rfl, ite2 (fun h => ?_) (fun h => ?_)⟩
  · have h : (0 : Int) < y := of_decide_eq_true h
    refine ⟨_, fun _ _ n => n, _, rfl, _, rfl, _, _, rfl, rfl, h, _, rfl, _, rfl, x % y, Nat.mod_lt _ (by omega), rfl, y, x % y, some (.int ((x % y : Nat) : Int)), ?_, rfl, ?_⟩
    · rw [Int.natCast_emod]; rfl
    · rw [← e, Nat.gcd_comm x y, Nat.gcd_rec y x, Nat.gcd_comm]
  · have h : ¬ (0 : Int) < y := fun z => h (decide_eq_true z)
    have e0 : y = 0 := by omega
    subst e0
    rw [Nat.gcd_zero_right] at e
    subst e
    exact ⟨_, rfl, k⟩
theorem ok_keep_apart {f : Addr} {fd : FuncData} (F : Fun K "keep_apart" "keep_apart" s_keep_apart f fd) (T : Txt K mg A) (c_common_divisor : CalX P w K mg base 1 "common_divisor" ["one", "other"] (sp_common_divisor K A)) : FnOk P w K mg base CX0 2 f fd ["first", "second", "lead", "gap"] (sp_keep_apart K A) := by
  obtain ⟨f_common_divisor, fd_common_divisor, c_common_divisor⟩ := c_common_divisor
  have nd := sc_keep_apart.nd
  refine F.ok sc_keep_apart (fun vs H Q E h => ?_) (fun cdv Ar outer s H vs Q E hr h => ?_)
  · obtain ⟨a, b, lead, gap, m, n, rfl, h1, h2, o1, k⟩ := h; rfl
  obtain ⟨a, b, lead, gap, m, n, rfl, h1, h2, o1, k⟩ := h
  refine ⟨_, (pss_cons (ps_set (i := 4) nd rfl (Or.inl rfl) (pe_call c_common_divisor.ok (hr.mono (by decide)) rfl c_common_divisor.gm c_common_divisor.kp c_common_divisor.b .nil pass0 (pa_cons (pe_fld (pv 0) rfl) (pa_cons (pe_fld (pv 1) rfl) pa_nil))))
 (pss_one (ps_ret (pe_and (pe_cmpR op_le (pe_op op_add (pe_fld (pv 0) rfl) (pv 3)) (pe_op op_mod (pv 2) (pv 4)) (nomark _)) (pe_one (pe_cmpR op_le (pe_op op_add (pe_fld (pv 1) rfl) (pv 3)) (pe_op op_mod (pe_un un_neg (pv 2)) (pv 4)) (nomark _))))))), ?_⟩
  have hg : (0 : Int) < (Nat.gcd m.period n.period : Nat) := by
    have := Nat.gcd_pos_of_pos_left n.period (show 0 < m.period from o1.p1)
    omega
  obtain ⟨dx1, h1⟩ := h1
  obtain ⟨dx2, h2⟩ := h2
  refine ⟨_, rfl, _, _, _, _, _, rfl, h1, T.clMessage, T.nMessage_period, rfl, _, rfl, _, _, _, _, _, rfl, h2, T.clMessage, T.nMessage_period, rfl, m.period, n.period, rfl, ?_⟩
  refine ⟨_, rfl, _, _, _, _, _, rfl, h1, T.clMessage, T.nMessage_length, rfl, _, rfl, _, _, rfl, rfl, _, rfl, _, rfl, _, _, rfl, rfl, hg, _, _, rfl, rfl, _, rfl, ?_⟩
  unfold apartL at k
  refine ite2 (fun h => ?_) (fun h => ?_)
  · rw [show decide _ = true from h, Bool.true_and] at k
    exact ⟨_, rfl, _, _, _, _, _, rfl, h2, T.clMessage, T.nMessage_length, rfl, _, rfl, _, _, rfl, rfl, _, rfl, _, rfl, _, rfl, _, _, rfl, rfl, hg, _, _, rfl, rfl, k⟩
  · rw [show decide _ = false from Bool.eq_false_iff.mpr h, Bool.false_and] at k
    exact k
theorem ok_collide {f : Addr} {fd : FuncData} (F : Fun K "collide" "collide" s_collide f fd) (T : Txt K mg A) (c_keep_apart : CalX P w K mg base 2 "keep_apart" ["first", "second", "lead", "gap"] (sp_keep_apart K A)) : FnOk P w K mg base CX0 3 f fd ["first", "second", "lead"] (sp_collide K A) := by
  obtain ⟨f_keep_apart, fd_keep_apart, c_keep_apart⟩ := c_keep_apart
  have nd := sc_collide.nd
  refine F.ok sc_collide (fun vs H Q E h => ?_) (fun cdv Ar outer s H vs Q E hr h => ?_)
  · obtain ⟨a, b, lead, m, n, rfl, ⟨dx1, h1⟩, ⟨dx2, h2⟩, o1, k⟩ := h; rfl
  obtain ⟨a, b, lead, m, n, rfl, ⟨dx1, h1⟩, ⟨dx2, h2⟩, o1, k⟩ := h
  refine ⟨_, (pss_one (ps_ret (pe_and (pe_cmpR op_ne (pe_op op_and (pe_fld (pv 0) rfl) (pe_fld (pv 1) rfl)) pe_int (nomark _)) (pe_one (pe_not (pe_call c_keep_apart.ok (hr.mono (by decide)) rfl c_keep_apart.gm c_keep_apart.kp c_keep_apart.b .nil pass0 (pa_cons (pv 0) (pa_cons (pv 1) (pa_cons (pv 2) (pa_cons pe_int pa_nil)))))))))), ?_⟩
  refine ⟨_, rfl, _, _, _, _, _, rfl, h1, T.clMessage, T.nMessage_buses, rfl, _, rfl, _, _, _, _, _, rfl, h2, T.clMessage, T.nMessage_buses, rfl, _, _, rfl, rfl, rfl, _, rfl, ?_⟩
  have e : (!decide (V.int (Builtin.bitAnd (m.buses : Int) (n.buses : Int)) = V.int 0)) = decide (m.buses &&& n.buses ≠ 0) := by
    rw [bitAnd_pp (by omega) (by omega), Int.toNat_natCast, Int.toNat_natCast]
    by_cases q : m.buses &&& n.buses = 0
    · rw [q]; rfl
    · rw [decide_eq_true (show m.buses &&& n.buses ≠ 0 from q), decide_eq_false]
      · rfl
      · intro z; injection z with z; exact q (by omega)
  rw [e]
  unfold colL at k
  refine ite2 (fun h => ?_) (fun h => ?_)
  · rw [h, Bool.true_and] at k
    exact ⟨_, rfl, _, rfl, _, rfl, a, b, lead, 0, m, n, rfl, ⟨dx1, h1⟩, ⟨dx2, h2⟩, o1, _, rfl, k⟩
  · rw [Bool.eq_false_iff.mpr h, Bool.false_and] at k
    exact k
theorem ok_is_met {f : Addr} {fd : FuncData} (F : Fun K "is_met" "is_met" s_is_met f fd) (T : Txt K mg A) (c_keep_apart : CalX P w K mg base 2 "keep_apart" ["first", "second", "lead", "gap"] (sp_keep_apart K A)) : FnOk P w K mg base CX0 3 f fd ["demand", "messages", "lead"] (sp_is_met K A) := by
  obtain ⟨f_keep_apart, fd_keep_apart, c_keep_apart⟩ := c_keep_apart
  have nd := sc_is_met.nd
  refine F.ok sc_is_met (fun vs H Q E h => ?_) (fun cdv Ar outer s H vs Q E hr h => ?_)
  · obtain ⟨a, l, lead, d, ms, rfl, ⟨dx, h1⟩, h2, o, ha, hb, k⟩ := h; rfl
  obtain ⟨a, l, lead, d, ms, rfl, ⟨dx, h1⟩, h2, o, ha, hb, k⟩ := h
  refine ⟨_, (pss_cons (ps_set (i := 3) nd rfl (Or.inl rfl) (pe_ix ix_list (pv 1) (pe_fld (pv 0) rfl) (fun _ _ => rfl)))
 (pss_cons (ps_set (i := 4) nd rfl (Or.inl rfl) (pe_ix ix_list (pv 1) (pe_fld (pv 0) rfl) (fun _ _ => rfl)))
 (pss_cons (ps_if (pt_cmpR op_eq (pe_fld (pv 0) rfl) pe_int (nomark _))
 (pss_one (ps_ret (pe_cmpR op_le (pe_op op_add (pe_fld (pv 3) rfl) (pe_fld (pv 0) rfl)) (pv 2) (nomark _))))
 pss_nil)
 (pss_one (ps_ret (pe_call c_keep_apart.ok (hr.mono (by decide)) rfl c_keep_apart.gm c_keep_apart.kp c_keep_apart.b .nil pass0 (pa_cons (pv 3) (pa_cons (pv 4) (pa_cons (pv 2) (pa_cons (pe_fld (pv 0) rfl) pa_nil)))))))))), ?_⟩
  obtain ⟨as, hl, hn, hat⟩ := h2.adr
  obtain ⟨a1, dx1, e1, g1⟩ := hat d.a ha
  obtain ⟨a2, dx2, e2, g2⟩ := hat d.b hb
  have o1 : OkM (gm ms d.a) := o _ (List.mem_of_getElem? (gm_at ha))
  refine ⟨_, rfl, _, rfl, _, _, _, _, _, rfl, h1, T.clDemand, T.nDemand_first, rfl, _, _, _, _, rfl, rfl, SqL.of hl, (at_ref e1), _, rfl, _, rfl, _, _, _, _, _, rfl, h1, T.clDemand, T.nDemand_second, rfl, _, _, _, _, rfl, rfl, SqL.of hl, (at_ref e2), ?_⟩
  refine ⟨_, rfl, _, _, _, _, _, rfl, h1, T.clDemand, T.nDemand_kind, rfl, rfl, _, rfl, ?_⟩
  unfold metL at k
  refine ite2 (fun h => ?_) (fun h => ?_)
  · have h : d.kind = 0 := by have := of_decide_eq_true h; injection this with z; omega
    rw [if_pos h] at k
    exact ⟨_, rfl, _, _, _, _, _, rfl, g1, T.clMessage, T.nMessage_length, rfl, _, rfl, _, _, _, _, _, rfl, h1, T.clDemand, T.nDemand_gap, rfl, _, _, rfl, rfl, _, rfl, _, _, rfl, rfl, k⟩
  · have h : ¬ d.kind = 0 := fun z => h (by rw [z]; rfl)
    rw [if_neg h] at k
    exact ⟨_, rfl, _, rfl, _, rfl, _, rfl, _, _, _, _, _, rfl, h1, T.clDemand, T.nDemand_gap, rfl, a1, a2, lead, d.gap, _, _, rfl, ⟨dx1, g1⟩, ⟨dx2, g2⟩, o1, k⟩
theorem ok_both_put {f : Addr} {fd : FuncData} (F : Fun K "both_put" "both_put" s_both_put f fd) (T : Txt K mg A) : FnOk P w K mg base CX0 1 f fd ["table", "one", "other"] (sp_both_put K A) := by
  have nd := sc_both_put.nd
  refine F.ok sc_both_put (fun vs H Q E h => ?_) (fun cdv Ar outer s H vs Q E hr h => ?_)
  · obtain ⟨l, t, i, j, rfl, hl, hi, hj, k⟩ := h; rfl
  obtain ⟨l, t, i, j, rfl, hl, hi, hj, k⟩ := h
  refine ⟨_, (pss_one (ps_ret (pe_and (pe_cmpR op_ne (pe_ix ix_list (pv 0) (pv 1) (fun _ _ => rfl)) (pe_cst rfl T.g_NOT_PUT) (nomark _)) (pe_one (pe_cmpR op_ne (pe_ix ix_list (pv 0) (pv 2) (fun _ _ => rfl)) (pe_cst rfl T.g_NOT_PUT) (nomark _)))))), ?_⟩
  refine ⟨_, rfl, _, rfl, _, _, _, _, rfl, rfl, SqL.of hl, (at_int (tabI_at hi)), rfl, _, rfl, ?_⟩
  have e : ∀ o : Option Nat, (!decide (V.int (slotI o) = V.int (-1))) = o.isSome := fun o => by
    have q : decide (V.int (slotI o) = V.int (-1)) = decide (slotI o = -1) := decide_eq_decide.mpr ⟨fun z => by injection z, fun z => by rw [z]⟩
    rw [q, slotI_put, Bool.not_not]
  rw [e]
  refine ite2 (fun h => ?_) (fun h => ?_)
  · rw [h, Bool.true_and] at k
    refine ⟨_, rfl, _, rfl, _, _, _, _, rfl, rfl, SqL.of hl, (at_int (tabI_at hj)), rfl, ?_⟩
    rw [e]
    exact k
  · rw [Bool.eq_false_iff.mpr h, Bool.false_and] at k
    exact k
end
theorem missR_len (t : List (Option Nat)) (n : Nat) : (missR t n).length ≤ n := by
  unfold missR
  rw [List.length_map]
  exact Nat.le_trans (List.length_filter_le ..) (by rw [List.length_range]; exact Nat.le_refl _)
theorem demR_len (s : Plan) (t : List (Option Nat)) (n : Nat) : (demR s t n).length ≤ n := by
  unfold demR
  rw [List.length_map]
  exact Nat.le_trans (List.length_filter_le ..) (by rw [List.length_range]; exact Nat.le_refl _)
theorem pairR1_len (s : Plan) (t : List (Option Nat)) (i j : Nat) : (pairR1 s t i j).length ≤ j := by
  unfold pairR1
  rw [List.length_map]
  exact Nat.le_trans (List.length_filter_le ..) (by rw [List.length_map, List.length_range]; exact Nat.le_refl _)
theorem pairR_len (s : Plan) (t : List (Option Nat)) (n : Nat) : ∀ i, (pairR s t n i).length ≤ i * n
  | 0 => by unfold pairR; simp
  | i + 1 => by
    rw [pairR_succ, List.length_append, Nat.succ_mul]
    have h1 := pairR_len s t n i
    have h2 := pairR1_len s t i (n - (i + 1))
    omega
section
variable {P : Program} {w : World} {K : PySem.W.Frag} {mg : Str → Option Value} {base : Heap} {A : Adr}
theorem ok_missing_messages {f : Addr} {fd : FuncData} (F : Fun K "missing_messages" "missing_messages" s_missing_messages f fd) (T : Txt K mg A) : FnOk P w K mg base CX0 1 f fd ["table"] (sp_missing_messages K A) := by
  have nd := sc_missing_messages.nd
  refine F.ok sc_missing_messages (fun vs H Q E h => ?_) (fun cdv Ar outer s H vs Q E hr h => ?_)
  · obtain ⟨l, t, rfl, hl, h8, k⟩ := h; rfl
  obtain ⟨l, t, rfl, hl, h8, k⟩ := h
  refine ⟨_, (pss_one (ps_ret (pe_lc (own := [("number", 1)]) rfl nd (pi_range1 rfl T.range (pa_cons (pe_callB call_len_seq (by rfl) T.len PySem.boot_len (pa_cons (pv 0) pa_nil)) pa_nil)) (blkOk_by (N := ["table", "number"]) (sc := defScope s_missing_messages) (by decide +kernel)) (fun _ _ _ _ _ => (pg_name (i := 1) nd rfl (Or.inl rfl))) (fun _ _ _ _ _ => (pts_one (pt_cmpR op_eq (pe_ix (ix_listK (K := K) rfl) (pv 0) (pv 1) (fun _ _ => rfl)) (pe_cst rfl T.g_NOT_PUT) (nomark _)))) (fun _ _ _ _ _ => (pe_tup (pa_cons (pe_cst rfl T.g_FAULT_NOT_PUT) (pa_cons (pv 1) (pa_cons (pv 1) pa_nil)))))))), ?_⟩
  have hlen : ((tabI t).map V.int).length = t.length := by rw [List.length_map, tabI_len]
  refine ⟨_, rfl, _, _, rfl, .inl (SqL.of hl), (((tabI t).map V.int).length : Nat), rfl, by rw [hlen]; omega, by rw [hlen]; omega, fun D hD => ?_⟩
  rw [Int.toNat_natCast, hlen]
  refine lc_range (fun i H' => Same H H' ∧ TupsAt H' D (missR t i)) ⟨Same.put hD, TupsAt.nil⟩ ?_ ?_
  · rintro i H' hi ⟨s1, B⟩
    refine ⟨rfl, ?_⟩
    have e0 : (0 : Int) + (i : Nat) = (i : Nat) := Int.zero_add _
    rw [e0]
    refine ⟨_, rfl, _, rfl, _, _, _, _, rfl, rfl, SqL.of (s1 _ _ hl), (at_int (tabI_at hi)), rfl, _, rfl, ?_⟩
    have e : decide (V.int (slotI (Vbavab.beginOf t i)) = V.int (-1)) = !Vbavab.isPut t i := by
      rw [isPut_some, ← slotI_put]
      exact decide_eq_decide.mpr ⟨fun z => by injection z, fun z => by rw [z]⟩
    rw [e]
    refine ite2 (fun h => ?_) (fun h => ?_)
    · have hp : Vbavab.isPut t i = false := by cases q : Vbavab.isPut t i; rfl; rw [q] at h; cases h
      refine ⟨_, rfl, _, rfl, (by show 3 ≤ sizeLine; decide), fun u hu => ?_⟩
      obtain ⟨xs, ex, exl⟩ := B.lst
      have nu : D ≠ u := ne_of_none ex hu
      have ex' : (upd H' u (.tup [.int 1, .int i, .int i])) D = some (.lst xs) := by rw [upd_ne nu]; exact ex
      refine ⟨xs, ex', line_of (by have := missR_len t i; omega), ?_, ?_⟩
      · exact (s1.new (s1.free hu)).new hD
      · have q := B.push (r := [1, (i : Int), (i : Int)]) hu ex'
        rw [missR_succ, if_neg (by rw [hp]; exact Bool.false_ne_true)]
        exact q
    · have hp : Vbavab.isPut t i = true := by cases q : Vbavab.isPut t i; rw [q] at h; exact absurd rfl h; rfl
      refine ⟨s1, ?_⟩
      rw [missR_succ, if_pos hp, List.append_nil]
      exact B
  · rintro H' ⟨s1, B⟩
    exact k H' D s1 B
theorem ok_colliding_pairs {f : Addr} {fd : FuncData} (F : Fun K "colliding_pairs" "colliding_pairs" s_colliding_pairs f fd) (T : Txt K mg A) (c_both_put : CalX P w K mg base 1 "both_put" ["table", "one", "other"] (sp_both_put K A)) (c_collide : CalX P w K mg base 3 "collide" ["first", "second", "lead"] (sp_collide K A)) : FnOk P w K mg base CX0 4 f fd ["messages", "table"] (sp_colliding_pairs K A) := by
  obtain ⟨f_both_put, fd_both_put, c_both_put⟩ := c_both_put
  obtain ⟨f_collide, fd_collide, c_collide⟩ := c_collide
  have nd := sc_colliding_pairs.nd
  refine F.ok sc_colliding_pairs (fun vs H Q E h => ?_) (fun cdv Ar outer s H vs Q E hr h => ?_)
  · obtain ⟨lm, l, s, t, rfl, hm, hl, o, ht, k⟩ := h; rfl
  obtain ⟨lm, l, s, t, rfl, hm, hl, o, ht, k⟩ := h
  refine ⟨_, (pss_cons (ps_set (i := 2) nd rfl (Or.inl rfl) (pe_lst pa_nil))
 (pss_cons (ps_for PassesOwn.never rfl (pi_range1 rfl T.range (pa_cons (pe_callB call_len_seq (by rfl) T.len PySem.boot_len (pa_cons (pv 1) pa_nil)) pa_nil)) (pg_name (i := 3) nd rfl (Or.inl rfl))
 (pss_one (ps_for PassesOwn.never rfl (pi_range2 rfl T.range (pa_cons (pe_op op_add (pv 3) pe_int) (pa_cons (pe_callB call_len_seq (by rfl) T.len PySem.boot_len (pa_cons (pv 1) pa_nil)) pa_nil))) (pg_name (i := 4) nd rfl (Or.inl rfl))
 (pss_cons (ps_set (i := 5) nd rfl (Or.inl rfl) (pe_op op_sub (pe_ix ix_list (pv 1) (pv 4) (fun _ _ => rfl)) (pe_ix ix_list (pv 1) (pv 3) (fun _ _ => rfl))))
 (pss_one (ps_if (PW.pt (pw_and (pt_val (pe_call c_both_put.ok (hr.mono (by decide)) rfl c_both_put.gm c_both_put.kp c_both_put.b .nil pass0 (pa_cons (pv 1) (pa_cons (pv 3) (pa_cons (pv 4) pa_nil))))) (pw_and1 (pt_val (pe_call c_collide.ok (hr.mono (by decide)) rfl c_collide.gm c_collide.kp c_collide.b .nil pass0 (pa_cons (pe_ix ix_list (pv 0) (pv 3) (fun _ _ => rfl)) (pa_cons (pe_ix ix_list (pv 0) (pv 4) (fun _ _ => rfl)) (pa_cons (pv 5) pa_nil))))))))
 (pss_one (ps_expr (pe_bm PySem.F.plainAttrs_list PySem.F.slot_list_append PySem.F.type_list_append mt_append (pv 2) (pa_cons (pe_tup (pa_cons (pe_cst rfl T.g_FAULT_COLLIDE) (pa_cons (pv 3) (pa_cons (pv 4) pa_nil)))) pa_nil))))
 pss_nil))))))
 (pss_one (ps_ret (pv 2))))), ?_⟩
  have hlen : ((tabI t).map V.int).length = s.msgs.length := by rw [List.length_map, tabI_len, ht]
  have h8 := o.n8
  obtain ⟨as, hms, hn, hat⟩ := hm.adr
  refine ⟨Nat.zero_le _, fun p hp => ?_⟩
  refine ⟨_, rfl, _, _, rfl, .inl (SqL.of ((Same.put hp) _ _ hl)), (((tabI t).map V.int).length : Nat), rfl, by rw [hlen]; omega, by rw [hlen]; omega, ?_⟩
  rw [Int.toNat_natCast, hlen]
  refine for_range (fun i σ H' => ∃ v3 v4 v5 : Option V, σ = [some (.ref lm), some (.ref l), some (.ref p), v3, v4, v5] ∧ Same H H' ∧ TupsAt H' p (pairR s t s.msgs.length i)) ⟨none, none, none, rfl, Same.put hp, TupsAt.nil⟩ ?_ ?_
  · rintro i σ H1 hi ⟨v3, v4, v5, rfl, s1, B⟩
    have e0 : (0 : Int) + (i : Nat) = (i : Nat) := Int.zero_add _
    rw [e0]
    refine ⟨_, rfl, _, _, rfl, rfl, _, rfl, _, _, rfl, .inl (SqL.of (s1 _ _ hl)), _, _, rfl, ⟨by omega, by omega, by rw [hlen]; omega, by rw [hlen]; omega⟩, ?_⟩
    rw [show ((((tabI t).map V.int).length : Nat) : Int) - ((i : Int) + 1) = ((s.msgs.length - (i + 1) : Nat) : Int) by rw [hlen]; omega, Int.toNat_natCast]
    refine for_range (fun j σ H' => ∃ v4 v5 : Option V, σ = [some (.ref lm), some (.ref l), some (.ref p), some (.int i), v4, v5] ∧ Same H H' ∧ TupsAt H' p (pairR s t s.msgs.length i ++ pairR1 s t i j)) ⟨v4, v5, rfl, s1, by unfold pairR1; rw [List.range_zero, List.map_nil, List.filter_nil, List.map_nil, List.append_nil]; exact B⟩ ?_ ?_
    · rintro j σ H2 hj ⟨v4, v5, rfl, s2, B2⟩
      rw [show (i : Int) + 1 + (j : Nat) = ((i + 1 + j : Nat) : Int) by omega]
      have hk : i + 1 + j < s.msgs.length := by omega
      obtain ⟨a1, dx1, e1, g1⟩ := hat i hi
      obtain ⟨a2, dx2, e2, g2⟩ := hat (i + 1 + j) hk
      have hl2 := s2 _ _ hl
      have hm2 := s2 _ _ hms
      refine ⟨_, rfl, _, rfl, _, _, _, _, rfl, rfl, SqL.of hl2, (at_int (tabI_at (by rw [ht]; exact hk))), _, rfl, _, rfl, _, _, _, _, rfl, rfl, SqL.of hl2, (at_int (tabI_at (by rw [ht]; exact hi))), _, _, rfl, rfl, ?_⟩
      have bad := badPair_eq o t hi hk
      have keep : ∀ q : badPair s t i (i + 1 + j) = false, TupsAt H2 p (pairR s t s.msgs.length i ++ pairR1 s t i (j + 1)) := fun q => by
        rw [pairR1_succ, if_neg (by rw [q]; exact Bool.false_ne_true), List.append_nil]
        exact B2
      refine ⟨_, rfl, _, rfl, _, rfl, l, t, i, i + 1 + j, rfl, hl2, by omega, by omega, _, rfl, ?_⟩
      refine ite2 (fun h => ?_) (fun h => ?_)
      · rw [h, Bool.true_and] at bad
        refine ⟨_, rfl, _, rfl, _, _, _, _, rfl, rfl, SqL.of hm2, (at_ref e1), _, rfl, _, rfl, _, _, _, _, rfl, rfl, SqL.of hm2, (at_ref e2), _, rfl, a1, a2, _, _, _, rfl, ⟨dx1, s2 _ _ g1⟩, ⟨dx2, s2 _ _ g2⟩, o.gm hi, _, rfl, ?_⟩
        refine ite2 (fun h' => ?_) (fun h' => ?_)
        · rw [h'] at bad
          obtain ⟨xs, ex, exl⟩ := B2.lst
          refine ⟨_, rfl, .inl ⟨rfl, _, SqL.of ex⟩, _, rfl, _, rfl, (by show 3 ≤ sizeLine; decide), fun u hu => ?_⟩
          have nu : p ≠ u := ne_of_none ex hu
          have ex' : (upd H2 u (.tup [.int 2, .int i, .int ((i + 1 + j : Nat) : Int)])) p = some (.lst xs) := by rw [upd_ne nu]; exact ex
          refine ⟨p, xs, .ref u, rfl, rfl, ex', line_of ?_, ?_⟩
          · have q1 := pairR_len s t s.msgs.length i
            have q2 := pairR1_len s t i j
            rw [List.length_append] at exl
            have q3 : i * s.msgs.length ≤ 8 * 8 := Nat.mul_le_mul (by omega) h8
            omega
          · refine ⟨_, _, rfl, (s2.new (s2.free hu)).new hp, ?_⟩
            rw [pairR1_succ, if_pos bad, ← List.append_assoc]
            exact B2.push (r := [2, (i : Int), ((i + 1 + j : Nat) : Int)]) hu ex'
        · rw [Bool.eq_false_iff.mpr h'] at bad
          exact ⟨_, _, rfl, s2, keep bad⟩
      · rw [Bool.eq_false_iff.mpr h, Bool.false_and] at bad
        exact iteF ⟨_, _, rfl, s2, keep bad⟩
    · rintro σ H2 ⟨v4, v5, rfl, s2, B2⟩
      exact ⟨_, _, _, rfl, s2, by rw [pairR_succ]; exact B2⟩
  · rintro σ H1 ⟨v3, v4, v5, rfl, s1, B⟩
    exact ⟨_, rfl, k H1 p s1 B⟩
theorem ok_unmet_demands {f : Addr} {fd : FuncData} (F : Fun K "unmet_demands" "unmet_demands" s_unmet_demands f fd) (T : Txt K mg A) (c_both_put : CalX P w K mg base 1 "both_put" ["table", "one", "other"] (sp_both_put K A)) (c_is_met : CalX P w K mg base 3 "is_met" ["demand", "messages", "lead"] (sp_is_met K A)) : FnOk P w K mg base CX0 4 f fd ["messages", "demands", "table"] (sp_unmet_demands K A) := by
  obtain ⟨f_both_put, fd_both_put, c_both_put⟩ := c_both_put
  obtain ⟨f_is_met, fd_is_met, c_is_met⟩ := c_is_met
  have nd := sc_unmet_demands.nd
  refine F.ok sc_unmet_demands (fun vs H Q E h => ?_) (fun cdv Ar outer s H vs Q E hr h => ?_)
  · obtain ⟨lm, ld, l, s, t, rfl, hm, hd, hl, o, ht, k⟩ := h; rfl
  obtain ⟨lm, ld, l, s, t, rfl, hm, hd, hl, o, ht, k⟩ := h
  refine ⟨_, (pss_cons (ps_set (i := 3) nd rfl (Or.inl rfl) (pe_lst pa_nil))
 (pss_cons (ps_for PassesOwn.never rfl (pi_enum rfl T.enumerate (pa_cons (pv 1) pa_nil)) (pg_tup rfl (pgs_cons (pg_name (i := 4) nd rfl (Or.inl rfl)) (pgs_cons (pg_name (i := 5) nd rfl (Or.inl rfl)) pgs_nil)))
 (pss_cons (ps_set (i := 6) nd rfl (Or.inl rfl) (pe_op op_sub (pe_ix ix_list (pv 2) (pe_fld (pv 5) rfl) (fun _ _ => rfl)) (pe_ix ix_list (pv 2) (pe_fld (pv 5) rfl) (fun _ _ => rfl))))
 (pss_one (ps_if (PW.pt (pw_and (pt_val (pe_call c_both_put.ok (hr.mono (by decide)) rfl c_both_put.gm c_both_put.kp c_both_put.b .nil pass0 (pa_cons (pv 2) (pa_cons (pe_fld (pv 5) rfl) (pa_cons (pe_fld (pv 5) rfl) pa_nil))))) (pw_and1 (pt_not (pt_val (pe_call c_is_met.ok (hr.mono (by decide)) rfl c_is_met.gm c_is_met.kp c_is_met.b .nil pass0 (pa_cons (pv 5) (pa_cons (pv 0) (pa_cons (pv 6) pa_nil)))))))))
 (pss_one (ps_expr (pe_bm PySem.F.plainAttrs_list PySem.F.slot_list_append PySem.F.type_list_append mt_append (pv 3) (pa_cons (pe_tup (pa_cons (pe_cst rfl T.g_FAULT_DEMAND) (pa_cons (pv 4) (pa_cons (pv 4) pa_nil)))) pa_nil))))
 pss_nil))))
 (pss_one (ps_ret (pv 3))))), ?_⟩
  have h16 := o.n16
  obtain ⟨ds, hds, hdn, hdat⟩ := hd.adr
  have hlen : (ds.map V.ref).length = s.demands.length := by rw [List.length_map, hdn]
  refine ⟨Nat.zero_le _, fun p hp => ?_⟩
  refine ⟨_, rfl, _, _, rfl, SqL.of ((Same.put hp) _ _ hds), ?_⟩
  refine for_enum (xs := ds.map V.ref) (fun i σ H' => ∃ v4 v5 v6 : Option V, σ = [some (.ref lm), some (.ref ld), some (.ref l), some (.ref p), v4, v5, v6] ∧ Same H H' ∧ TupsAt H' p (demR s t i)) ⟨none, none, none, rfl, Same.put hp, TupsAt.nil⟩ (fun i σ H' _ ⟨_, _, _, _, s1, _⟩ => SqL.of (s1 _ _ hds)) ?_ ?_
  · rintro i x σ H1 u0 hx hu0 ⟨v4, v5, v6, rfl, s1, B⟩
    have hi : i < s.demands.length := by rw [← hlen]; exact (List.getElem?_eq_some_iff.mp hx).1
    obtain ⟨d, hdi⟩ : ∃ d, s.demands[i]? = some d := ⟨_, List.getElem?_eq_getElem hi⟩
    obtain ⟨a, dx, ea, g0⟩ := hdat i d hdi
    have ex : x = .ref a := by rw [List.getElem?_map, ea] at hx; exact (Option.some.inj hx).symm
    subst ex
    have od := o.d d (List.mem_of_getElem? hdi)
    refine ⟨u0, _, rfl, SqT.of upd_same, rfl, _, _, rfl, _, _, rfl, rfl, ?_⟩
    have s2 : Same H (upd H1 u0 (.tup [.int (i : Nat), .ref a])) := s1.new (s1.free hu0)
    have B2 : TupsAt (upd H1 u0 (.tup [.int (i : Nat), .ref a])) p (demR s t i) := B.keep (Same.put hu0)
    generalize upd H1 u0 (.tup [.int (i : Nat), .ref a]) = H2 at s2 B2
    have hl2 := s2 _ _ hl
    have g2 := s2 _ _ g0
    refine ⟨_, rfl, _, rfl, _, _, _, _, _, rfl, g2, T.clDemand, T.nDemand_second, rfl, _, _, _, _, rfl, rfl, SqL.of hl2, (at_int (tabI_at (by rw [ht]; exact od.b))), _, rfl, _, rfl, _, _, _, _, _, rfl, g2, T.clDemand, T.nDemand_first, rfl, _, _, _, _, rfl, rfl, SqL.of hl2, (at_int (tabI_at (by rw [ht]; exact od.a))), _, _, rfl, rfl, ?_⟩
    have bad := badDem_eq o t hdi
    have keep : ∀ q : badDem s t i = false, TupsAt H2 p (demR s t (i + 1)) := fun q => by
      rw [demR_succ, if_neg (by rw [q]; exact Bool.false_ne_true), List.append_nil]
      exact B2
    refine ⟨_, rfl, _, rfl, _, _, _, _, _, rfl, g2, T.clDemand, T.nDemand_first, rfl, _, rfl, _, _, _, _, _, rfl, g2, T.clDemand, T.nDemand_second, rfl, l, t, d.a, d.b, rfl, hl2, by rw [ht]; exact od.a, by rw [ht]; exact od.b, _, rfl, ?_⟩
    refine ite2 (fun h => ?_) (fun h => ?_)
    · rw [h, Bool.true_and] at bad
      refine ⟨_, rfl, _, rfl, _, rfl, a, lm, _, d, s.msgs, rfl, ⟨dx, g2⟩, hm.keep s2, o.m, od.a, od.b, _, rfl, ?_⟩
      refine ite2 (fun h' => ?_) (fun h' => ?_)
      · rw [h'] at bad
        obtain ⟨xs, ex, exl⟩ := B2.lst
        refine ⟨_, rfl, .inl ⟨rfl, _, SqL.of ex⟩, _, rfl, _, rfl, (by show 3 ≤ sizeLine; decide), fun u hu => ?_⟩
        have nu : p ≠ u := ne_of_none ex hu
        have ex' : (upd H2 u (.tup [.int 3, .int (i : Nat), .int (i : Nat)])) p = some (.lst xs) := by rw [upd_ne nu]; exact ex
        refine ⟨p, xs, .ref u, rfl, rfl, ex', line_of ?_, ?_⟩
        · have q1 := demR_len s t i
          omega
        · refine ⟨_, _, _, rfl, (s2.new (s2.free hu)).new hp, ?_⟩
          rw [demR_succ, if_pos bad]
          exact B2.push (r := [3, (i : Int), (i : Int)]) hu ex'
      · rw [Bool.eq_false_iff.mpr h'] at bad
        exact ⟨_, _, _, rfl, s2, keep bad⟩
    · rw [Bool.eq_false_iff.mpr h, Bool.false_and] at bad
      exact iteF ⟨_, _, _, rfl, s2, keep bad⟩
  · rintro σ H1 ⟨v4, v5, v6, rfl, s1, B⟩
    rw [hlen] at B
    exact ⟨_, rfl, k H1 p s1 B⟩
theorem ok_table_faults {f : Addr} {fd : FuncData} (F : Fun K "table_faults" "table_faults" s_table_faults f fd) (T : Txt K mg A) (c_unmet_demands : CalX P w K mg base 4 "unmet_demands" ["messages", "demands", "table"] (sp_unmet_demands K A)) (c_missing_messages : CalX P w K mg base 1 "missing_messages" ["table"] (sp_missing_messages K A)) (c_colliding_pairs : CalX P w K mg base 4 "colliding_pairs" ["messages", "table"] (sp_colliding_pairs K A)) : FnOk P w K mg base CX0 5 f fd ["messages", "demands", "table"] (sp_table_faults K A) := by
  obtain ⟨f_unmet_demands, fd_unmet_demands, c_unmet_demands⟩ := c_unmet_demands
  obtain ⟨f_missing_messages, fd_missing_messages, c_missing_messages⟩ := c_missing_messages
  obtain ⟨f_colliding_pairs, fd_colliding_pairs, c_colliding_pairs⟩ := c_colliding_pairs
  have nd := sc_table_faults.nd
  refine F.ok sc_table_faults (fun vs H Q E h => ?_) (fun cdv Ar outer s H vs Q E hr h => ?_)
  · obtain ⟨lm, ld, l, s, t, rfl, hm, hd, hl, o, ht, k⟩ := h; rfl
  obtain ⟨lm, ld, l, s, t, rfl, hm, hd, hl, o, ht, k⟩ := h
  refine ⟨_, (pss_one (ps_ret (pe_op op_cat (pe_op op_cat (pe_call c_missing_messages.ok (hr.mono (by decide)) rfl c_missing_messages.gm c_missing_messages.kp c_missing_messages.b .nil pass0 (pa_cons (pv 2) pa_nil)) (pe_call c_colliding_pairs.ok (hr.mono (by decide)) rfl c_colliding_pairs.gm c_colliding_pairs.kp c_colliding_pairs.b .nil pass0 (pa_cons (pv 0) (pa_cons (pv 2) pa_nil)))) (pe_call c_unmet_demands.ok (hr.mono (by decide)) rfl c_unmet_demands.gm c_unmet_demands.kp c_unmet_demands.b .nil pass0 (pa_cons (pv 0) (pa_cons (pv 1) (pa_cons (pv 2) pa_nil))))))), ?_⟩
  have h8 := o.n8
  have h16 := o.n16
  refine ⟨_, rfl, l, t, rfl, hl, by omega, fun H1 p1 s1 B1 => ?_⟩
  refine ⟨_, rfl, _, rfl, lm, l, s, t, rfl, hm.keep s1, s1 _ _ hl, o, ht, fun H2 p2 s2 B2 => ?_⟩
  have C1 := B1.keep s2
  obtain ⟨xs, ex, exl⟩ := C1.lst
  obtain ⟨ys, ey, eyl⟩ := B2.lst
  have q1 := missR_len t t.length
  have q2 := pairR_len s t s.msgs.length s.msgs.length
  have q3 : s.msgs.length * s.msgs.length ≤ 8 * 8 := Nat.mul_le_mul h8 h8
  have q4 := demR_len s t s.demands.length
  refine ⟨p1, p2, xs, ys, rfl, rfl, ex, ey, Nat.le_of_lt (line_of (by omega)), fun p3 hp3 => ?_⟩
  have B3 := C1.cat B2 ex ey hp3
  have s3 : Same H (upd H2 p3 (.lst (xs ++ ys))) := (s1.trans s2).new ((s1.trans s2).free hp3)
  generalize upd H2 p3 (.lst (xs ++ ys)) = H3 at B3 s3
  refine ⟨_, rfl, _, rfl, _, rfl, lm, ld, l, s, t, rfl, hm.keep s3, hd.keep s3, s3 _ _ hl, o, ht, fun H4 p4 s4 B4 => ?_⟩
  have C3 := B3.keep s4
  obtain ⟨zs, ez, ezl⟩ := C3.lst
  obtain ⟨us, eu, eul⟩ := B4.lst
  rw [List.length_append] at ezl
  refine ⟨p3, p4, zs, us, rfl, rfl, ez, eu, Nat.le_of_lt (line_of (by omega)), fun p5 hp5 => ?_⟩
  have B5 := C3.cat B4 ez eu hp5
  refine k _ p5 ((s3.trans s4).new ((s3.trans s4).free hp5)) ?_
  rw [wrongs_rows, ← ht]
  rw [← ht] at B5
  exact B5
end
theorem eqv2 (a b x y : Int) : PyData.eqv (.tuple [.int a, .int b]) (.tuple [.int x, .int y]) = (decide (a = x) && decide (b = y)) := by
  simp [PyData.eqv, PyData.eqvAll, Bool.beq_eq_decide_eq]
theorem DemsAt.nil {A : Adr} {H : Hp} {l : Addr} : DemsAt A (upd H l (.lst [])) l [] := ⟨[], upd_same, rfl, fun i a r e _ => by simp at e⟩
theorem DemsAt.push {A : Adr} {H : Hp} {l a : Addr} {ds : List Demand} {d : Demand} {xs : List V} (h : DemsAt A H l ds) (ha : DemAt A H a d) (hx : H l = some (.lst xs)) : DemsAt A (upd H l (.lst (xs ++ [.ref a]))) l (ds ++ [d]) := by
  obtain ⟨as, h1, h2, h3⟩ := h.ex
  rw [h1] at hx
  have ex : xs = as.map V.ref := by injection hx with e; injection e with e; exact e.symm
  subst ex
  have kp : ∀ {b : Addr} {u : Demand}, DemAt A H b u → DemAt A (upd H l (.lst (as.map V.ref ++ [.ref a]))) b u := fun {b u} ⟨dx, e⟩ => ⟨dx, by rw [upd_ne (ne_of e h1 (by intro z; cases z))]; exact e⟩
  refine ⟨as ++ [a], by rw [upd_same, List.map_append]; rfl, by simp [h2], fun i b u e1 e2 => ?_⟩
  by_cases hi : i < as.length
  · rw [List.getElem?_append_left hi] at e1
    rw [List.getElem?_append_left (by omega)] at e2
    exact kp (h3 i b u e1 e2)
  · rw [List.getElem?_append_right (by omega)] at e1 e2
    have hl := (List.getElem?_eq_some_iff.mp e1).1
    have z : i - as.length = 0 := by simp at hl; omega
    rw [z] at e1
    rw [← h2, z] at e2
    have ea : a = b := Option.some.inj e1
    have er : d = u := Option.some.inj e2
    subst ea er
    exact kp ha
theorem DemsAt.len {A : Adr} {H : Hp} {l : Addr} {ds : List Demand} {xs : List V} (h : DemsAt A H l ds) (e : H l = some (.lst xs)) : xs.length = ds.length := by
  obtain ⟨as, h1, h2, h3⟩ := h.ex
  rw [h1] at e
  injection e with e; injection e with e
  rw [← e, List.length_map, h2]
def sp_lead_fits (K : PySem.W.Frag) (A : Adr) : Sp := fun vs H Q _ => ∃ (lm lb : Addr) (s : Plan) (e k : Nat) (lead : Int), vs = [.ref lm, .ref lb, .int e, .int k, .int lead] ∧ MsgsAt A H lm s.msgs ∧ DemsAt A H lb (betw s.demands e k) ∧ OkP s ∧ e < s.msgs.length ∧ k < s.msgs.length ∧ Q (.bl (fitL s e k lead)) H
def sp_pair_leads (K : PySem.W.Frag) (A : Adr) : Sp := fun vs H Q _ => ∃ (lm ld : Addr) (s : Plan) (e k : Nat), vs = [.ref lm, .ref ld, .int e, .int k] ∧ MsgsAt A H lm s.msgs ∧ DemsAt A H ld s.demands ∧ OkP s ∧ e < s.msgs.length ∧ k < s.msgs.length ∧ ∀ (H' : Hp) (B : Nat), Same H H' → PairBits s e k B → Q (.int B) H'
def sp_demands_between (K : PySem.W.Frag) (A : Adr) : Sp := fun vs H Q _ => ∃ (ld : Addr) (ds : List Demand) (e k : Nat), vs = [.ref ld, .int e, .int k] ∧ DemsAt A H ld ds ∧ ds.length ≤ 16 ∧ ∀ (H' : Hp) (p : Addr), Same H H' → DemsAt A H' p (betw ds e k) → Q (.ref p) H'
theorem betw_succ {ds : List Demand} {i : Nat} {d : Demand} (h : ds[i]? = some d) (e k : Nat) : betw (ds.take (i + 1)) e k = betw (ds.take i) e k ++ (if (d.a = e ∧ d.b = k) ∨ (d.a = k ∧ d.b = e) then [d] else []) := by
  unfold betw
  rw [List.take_add_one, h, List.filter_append]
  congr 1
  by_cases q : (d.a = e ∧ d.b = k) ∨ (d.a = k ∧ d.b = e)
  · rw [if_pos q]; simp [q]
  · rw [if_neg q]; simp [q]
section
variable {P : Program} {w : World} {K : PySem.W.Frag} {mg : Str → Option Value} {base : Heap} {A : Adr}
theorem ok_demands_between {f : Addr} {fd : FuncData} (F : Fun K "demands_between" "demands_between" s_demands_between f fd) (T : Txt K mg A) : FnOk P w K mg base CX0 1 f fd ["demands", "one", "other"] (sp_demands_between K A) := by
  have nd := sc_demands_between.nd
  refine F.ok sc_demands_between (fun vs H Q E h => ?_) (fun cdv Ar outer s H vs Q E hr h => ?_)
  · obtain ⟨ld, ds, e, k, rfl, hd, h16, fin⟩ := h; rfl
  obtain ⟨ld, ds, e, k, rfl, hd, h16, fin⟩ := h
  refine ⟨_, (pss_cons (ps_set (i := 3) nd rfl (Or.inl rfl) (pe_lst pa_nil))
 (pss_cons (ps_for PassesOwn.never rfl (pi_list (pv 0)) (pg_name (i := 4) nd rfl (Or.inl rfl))
 (pss_one (ps_if (pt_cmpR (op_inD hr.units) (pe_tup (pa_cons (pe_fld (pv 4) rfl) (pa_cons (pe_fld (pv 4) rfl) pa_nil))) (pe_tup (pa_cons (pe_tup (pa_cons (pv 1) (pa_cons (pv 2) pa_nil))) (pa_cons (pe_tup (pa_cons (pv 2) (pa_cons (pv 1) pa_nil))) pa_nil))) (by with_unfolding_all rfl))
 (pss_one (ps_expr (pe_bm PySem.F.plainAttrs_list PySem.F.slot_list_append PySem.F.type_list_append mt_append (pv 3) (pa_cons (pv 4) pa_nil))))
 pss_nil)))
 (pss_one (ps_ret (pv 3))))), ?_⟩
  obtain ⟨as, hds, hdn, hdat⟩ := hd.adr
  have hlen : (as.map V.ref).length = ds.length := by rw [List.length_map, hdn]
  refine ⟨Nat.zero_le _, fun p hp => ?_⟩
  refine ⟨_, rfl, ld, rfl, ⟨_, SqL.of ((Same.put hp) _ _ hds)⟩, ?_⟩
  refine for_list (xs := as.map V.ref) (fun i σ H' => ∃ v4 : Option V, σ = [some (.ref ld), some (.int e), some (.int k), some (.ref p), v4] ∧ Same H H' ∧ DemsAt A H' p (betw (ds.take i) e k)) ⟨none, rfl, Same.put hp, DemsAt.nil⟩ (fun i σ H' _ ⟨_, _, s1, _⟩ => SqL.of (s1 _ _ hds)) ?_ ?_
  · rintro i x σ H1 hx ⟨v4, rfl, s1, B⟩
    have hi : i < ds.length := by rw [← hlen]; exact (List.getElem?_eq_some_iff.mp hx).1
    obtain ⟨d, hdi⟩ : ∃ d, ds[i]? = some d := ⟨_, List.getElem?_eq_getElem hi⟩
    obtain ⟨a, dx, ea, g0⟩ := hdat i d hdi
    have ex : x = .ref a := by rw [List.getElem?_map, ea] at hx; exact (Option.some.inj hx).symm
    subst ex
    have g1 := s1 _ _ g0
    refine ⟨_, rfl, _, _, _, _, _, rfl, g1, T.clDemand, T.nDemand_first, rfl, _, rfl, _, _, _, _, _, rfl, g1, T.clDemand, T.nDemand_second, rfl, (by show 2 ≤ sizeLine; decide), fun u1 hu1 => ?_⟩
    have t1 : Same H1 (upd H1 u1 (.tup [.int d.a, .int d.b])) := Same.put hu1
    have f1 : (upd H1 u1 (.tup [.int d.a, .int d.b])) u1 = some (.tup [.int d.a, .int d.b]) := upd_same
    generalize upd H1 u1 (.tup [.int d.a, .int d.b]) = H2 at t1 f1
    refine ⟨_, rfl, _, rfl, (by show 2 ≤ sizeLine; decide), fun u2 hu2 => ?_⟩
    have t2 : Same H2 (upd H2 u2 (.tup [.int e, .int k])) := Same.put hu2
    have f2 : (upd H2 u2 (.tup [.int e, .int k])) u2 = some (.tup [.int e, .int k]) := upd_same
    generalize upd H2 u2 (.tup [.int e, .int k]) = H3 at t2 f2
    refine ⟨_, rfl, _, rfl, (by show 2 ≤ sizeLine; decide), fun u3 hu3 => ?_⟩
    have t3 : Same H3 (upd H3 u3 (.tup [.int k, .int e])) := Same.put hu3
    have f3 : (upd H3 u3 (.tup [.int k, .int e])) u3 = some (.tup [.int k, .int e]) := upd_same
    generalize upd H3 u3 (.tup [.int k, .int e]) = H4 at t3 f3
    refine ⟨(by show 2 ≤ sizeLine; decide), fun u4 hu4 => ?_⟩
    have t4 : Same H4 (upd H4 u4 (.tup [.ref u2, .ref u3])) := Same.put hu4
    have f4 : (upd H4 u4 (.tup [.ref u2, .ref u3])) u4 = some (.tup [.ref u2, .ref u3]) := upd_same
    generalize upd H4 u4 (.tup [.ref u2, .ref u3]) = H5 at t4 f4
    have t34 := t3.trans t4
    have t24 := t2.trans t34
    refine ⟨[.tuple [.int e, .int k], .tuple [.int k, .int e]], .tuple [.int d.a, .int d.b],
      .tup (SqT.of f4) (.cons (.tup (SqT.of (t34 _ _ f2)) (.cons (.int _) (.cons (.int _) .nil))) (.cons (.tup (SqT.of (t4 _ _ f3)) (.cons (.int _) (.cons (.int _) .nil))) .nil)),
      .tup (SqT.of (t24 _ _ f1)) (.cons (.int _) (.cons (.int _) .nil)), rfl, rfl, Nat.le_of_ble_eq_true rfl, _, rfl, ?_⟩
    have s5 : Same H H5 := s1.trans (t1.trans t24)
    have B5 := B.keep (t1.trans t24)
    have ev : (([.tuple [.int e, .int k], .tuple [.int k, .int e]] : List PyData).any fun z => PyData.eqv z (.tuple [.int d.a, .int d.b])) = decide ((d.a = e ∧ d.b = k) ∨ (d.a = k ∧ d.b = e)) := by
      rw [Bool.eq_iff_iff]
      simp only [List.any_cons, List.any_nil, Bool.or_false, eqv2, Bool.or_eq_true, Bool.and_eq_true, decide_eq_true_eq]
      omega
    rw [ev]
    refine ite2 (fun h => ?_) (fun h => ?_)
    · have h := of_decide_eq_true h
      obtain ⟨bs, eb, _⟩ := B5.ex
      refine ⟨_, rfl, .inl ⟨rfl, _, SqL.of eb⟩, _, rfl, p, _, _, rfl, rfl, eb, line_of ?_, ?_⟩
      · have q := B5.len eb
        have q2 : (betw (ds.take i) e k).length ≤ 16 := Nat.le_trans (List.length_filter_le ..) (by rw [List.length_take]; omega)
        omega
      · refine ⟨_, rfl, s5.new hp, ?_⟩
        rw [betw_succ hdi, if_pos h]
        exact B5.push ⟨dx, s5 _ _ g0⟩ eb
    · refine ⟨_, rfl, s5, ?_⟩
      rw [betw_succ hdi, if_neg (fun z => h (decide_eq_true z)), List.append_nil]
      exact B5
  · rintro σ H1 ⟨v4, rfl, s1, B⟩
    rw [hlen, List.take_length] at B
    exact ⟨_, rfl, fin H1 p s1 B⟩
theorem ok_lead_fits {f : Addr} {fd : FuncData} (F : Fun K "lead_fits" "lead_fits" s_lead_fits f fd) (T : Txt K mg A) (c_collide : CalX P w K mg base 3 "collide" ["first", "second", "lead"] (sp_collide K A)) (c_is_met : CalX P w K mg base 3 "is_met" ["demand", "messages", "lead"] (sp_is_met K A)) : FnOk P w K mg base CX0 4 f fd ["messages", "between", "one", "other", "lead"] (sp_lead_fits K A) := by
  obtain ⟨f_collide, fd_collide, c_collide⟩ := c_collide
  obtain ⟨f_is_met, fd_is_met, c_is_met⟩ := c_is_met
  have nd := sc_lead_fits.nd
  refine F.ok sc_lead_fits (fun vs H Q E h => ?_) (fun cdv Ar outer s H vs Q E hr h => ?_)
  · obtain ⟨lm, lb, s, e, k, lead, rfl, hm, hb, o, he, hk, fin⟩ := h; rfl
  obtain ⟨lm, lb, s, e, k, lead, rfl, hm, hb, o, he, hk, fin⟩ := h
  refine ⟨_, (pss_cons (ps_if (pt_val (pe_call c_collide.ok (hr.mono (by decide)) rfl c_collide.gm c_collide.kp c_collide.b .nil pass0 (pa_cons (pe_ix ix_list (pv 0) (pv 2) (fun _ _ => rfl)) (pa_cons (pe_ix ix_list (pv 0) (pv 3) (fun _ _ => rfl)) (pa_cons (pv 4) pa_nil)))))
 (pss_one (ps_ret pe_bl))
 pss_nil)
 (pss_cons (ps_for PassesOwn.never rfl (pi_list (pv 1)) (pg_name (i := 5) nd rfl (Or.inl rfl))
 (pss_cons (ps_set (i := 6) nd rfl (Or.inl rfl) (pe_ifExp (pt_cmpR op_eq (pe_fld (pv 5) rfl) (pv 2) (nomark _)) (pv 4) (pe_un un_neg (pv 4))))
 (pss_one (ps_if (pt_not (pt_val (pe_call c_is_met.ok (hr.mono (by decide)) rfl c_is_met.gm c_is_met.kp c_is_met.b .nil pass0 (pa_cons (pv 5) (pa_cons (pv 0) (pa_cons (pv 6) pa_nil))))))
 (pss_one (ps_ret pe_bl))
 pss_nil))))
 (pss_one (ps_ret pe_bl)))), ?_⟩
  obtain ⟨ms, hms, hmn, hat⟩ := hm.adr
  obtain ⟨a1, dx1, e1, g1⟩ := hat e he
  obtain ⟨a2, dx2, e2, g2⟩ := hat k hk
  obtain ⟨as, hds, hdn, hdat⟩ := hb.adr
  have hlen : (as.map V.ref).length = (betw s.demands e k).length := by rw [List.length_map, hdn]
  refine ⟨_, rfl, _, rfl, _, _, _, _, rfl, rfl, SqL.of hms, (at_ref e1), _, rfl, _, rfl, _, _, _, _, rfl, rfl, SqL.of hms, (at_ref e2), _, rfl, a1, a2, lead, _, _, rfl, ⟨dx1, g1⟩, ⟨dx2, g2⟩, o.gm he, _, rfl, ?_⟩
  unfold fitL at fin
  refine ite2 (fun h => ?_) (fun h => ?_)
  · rw [h, Bool.not_true, Bool.false_and] at fin
    exact fin
  rw [Bool.eq_false_iff.mpr h, Bool.not_false, Bool.true_and] at fin
  refine ⟨_, rfl, lb, rfl, ⟨_, SqL.of hds⟩, ?_⟩
  refine for_list (xs := as.map V.ref) (fun i σ H' => H' = H ∧ ∃ v5 v6 : Option V, σ = [some (.ref lm), some (.ref lb), some (.int e), some (.int k), some (.int lead), v5, v6] ∧ ((betw s.demands e k).take i).all (fun d => metL s.msgs d (turned d e lead)) = true) ⟨rfl, none, none, rfl, rfl⟩ (fun i σ H' _ ⟨q, _⟩ => by subst q; exact SqL.of hds) ?_ ?_
  · rintro i x σ H1 hx ⟨rfl, v5, v6, rfl, al⟩
    have hi : i < (betw s.demands e k).length := by rw [← hlen]; exact (List.getElem?_eq_some_iff.mp hx).1
    obtain ⟨d, hdi⟩ : ∃ d, (betw s.demands e k)[i]? = some d := ⟨_, List.getElem?_eq_getElem hi⟩
    obtain ⟨a, dx, ea, g0⟩ := hdat i d hdi
    have ex : x = .ref a := by rw [List.getElem?_map, ea] at hx; exact (Option.some.inj hx).symm
    subst ex
    have hdm := (List.mem_filter.mp (List.mem_of_getElem? hdi)).1
    have od := o.d d hdm
    refine ⟨_, rfl, _, _, _, _, _, rfl, g0, T.clDemand, T.nDemand_first, rfl, _, rfl, rfl, _, rfl, ?_⟩
    have ed : decide (V.int (d.a : Int) = V.int (e : Int)) = decide (d.a = e) := decide_eq_decide.mpr ⟨fun z => by injection z with z; omega, fun z => by rw [z]⟩
    rw [ed]
    have tail : ∀ tv : Int, tv = turned d e lead → tIfS (tNot (tB (tCall (sp_is_met K A) [] E0 (tCons (tVar 5) (tCons (tVar 0) (tCons (tVar 6) tNil)))))) (tRet (tC (.bl false))) tNext
        { nx := fun σ H' => H' = H1 ∧ ∃ v5 v6 : Option V, σ = [some (.ref lm), some (.ref lb), some (.int e), some (.int k), some (.int lead), v5, v6] ∧ ((betw s.demands e k).take (i + 1)).all (fun d => metL s.msgs d (turned d e lead)) = true, rt := Q }
        [some (.ref lm), some (.ref lb), some (.int e), some (.int k), some (.int lead), some (.ref a), some (.int tv)] H1 := by
      rintro tv rfl
      refine ⟨_, rfl, _, rfl, _, rfl, a, lm, _, d, s.msgs, rfl, ⟨dx, g0⟩, hm, o.m, od.a, od.b, _, rfl, ?_⟩
      refine ite2 (fun h' => ?_) (fun h' => ?_)
      · have f : (betw s.demands e k).all (fun d => metL s.msgs d (turned d e lead)) = false := by
          rw [List.all_eq_false]
          exact ⟨d, List.mem_of_getElem? hdi, by intro z; rw [z] at h'; cases h'⟩
        rw [f] at fin
        exact fin
      · refine ⟨rfl, _, _, rfl, ?_⟩
        rw [List.take_add_one, hdi, List.all_append, al, Bool.true_and]
        show (metL s.msgs d (turned d e lead) && true) = true
        cases q : metL s.msgs d (turned d e lead)
        · rw [q] at h'; exact absurd rfl h'
        · rfl
    by_cases q : d.a = e
    · rw [decide_eq_true q]
      exact iteT ⟨_, rfl, tail lead (by unfold turned; rw [if_pos q])⟩
    · rw [decide_eq_false q]
      exact iteF ⟨_, rfl, _, rfl, tail (-lead) (by unfold turned; rw [if_neg q])⟩
  · rintro σ H1 ⟨rfl, v5, v6, rfl, al⟩
    rw [hlen, List.take_length] at al
    rw [al] at fin
    exact fin
theorem ok_pair_leads {f : Addr} {fd : FuncData} (F : Fun K "pair_leads" "pair_leads" s_pair_leads f fd) (T : Txt K mg A) (c_demands_between : CalX P w K mg base 1 "demands_between" ["demands", "one", "other"] (sp_demands_between K A)) (c_lead_fits : CalX P w K mg base 4 "lead_fits" ["messages", "between", "one", "other", "lead"] (sp_lead_fits K A)) : FnOk P w K mg base CX0 5 f fd ["messages", "demands", "early", "late"] (sp_pair_leads K A) := by
  obtain ⟨f_demands_between, fd_demands_between, c_demands_between⟩ := c_demands_between
  obtain ⟨f_lead_fits, fd_lead_fits, c_lead_fits⟩ := c_lead_fits
  have nd := sc_pair_leads.nd
  refine F.ok sc_pair_leads (fun vs H Q E h => ?_) (fun cdv Ar outer s H vs Q E hr h => ?_)
  · obtain ⟨lm, ld, s, e, k, rfl, hm, hd, o, he, hk, fin⟩ := h; rfl
  obtain ⟨lm, ld, s, e, k, rfl, hm, hd, o, he, hk, fin⟩ := h
  refine ⟨_, (pss_cons (ps_set (i := 4) nd rfl (Or.inl rfl) (pe_call c_demands_between.ok (hr.mono (by decide)) rfl c_demands_between.gm c_demands_between.kp c_demands_between.b .nil pass0 (pa_cons (pv 1) (pa_cons (pv 2) (pa_cons (pv 3) pa_nil)))))
 (pss_cons (ps_set (i := 5) nd rfl (Or.inl rfl) (pe_op op_sub (pe_fld (pe_ix ix_list (pv 0) (pv 3) (fun _ _ => rfl)) rfl) (pe_fld (pe_ix ix_list (pv 0) (pv 2) (fun _ _ => rfl)) rfl)))
 (pss_cons (ps_set (i := 6) nd rfl (Or.inl rfl) (pe_op op_sub (pe_fld (pe_ix ix_list (pv 0) (pv 3) (fun _ _ => rfl)) rfl) (pe_fld (pe_ix ix_list (pv 0) (pv 2) (fun _ _ => rfl)) rfl)))
 (pss_cons (ps_set (i := 7) nd rfl (Or.inl rfl) pe_int)
 (pss_cons (ps_for PassesOwn.never rfl (pi_range2 rfl T.range (pa_cons (pv 5) (pa_cons (pe_op op_add (pv 6) pe_int) pa_nil))) (pg_name (i := 8) nd rfl (Or.inl rfl))
 (pss_one (ps_if (pt_val (pe_call c_lead_fits.ok (hr.mono (by decide)) rfl c_lead_fits.gm c_lead_fits.kp c_lead_fits.b .nil pass0 (pa_cons (pv 0) (pa_cons (pv 4) (pa_cons (pv 2) (pa_cons (pv 3) (pa_cons (pv 8) pa_nil)))))))
 (pss_one (ps_set (i := 7) nd rfl (Or.inl rfl) (pe_op op_or (pv 7) (pe_op op_shl pe_int (pe_op op_add (pv 8) (pe_cst rfl T.g_LEAD_SHIFT))))))
 pss_nil)))
 (pss_one (ps_ret (pv 7)))))))), ?_⟩
  obtain ⟨ms, hms, hmn, hat⟩ := hm.adr
  obtain ⟨a1, dx1, e1, g1⟩ := hat e he
  obtain ⟨a2, dx2, e2, g2⟩ := hat k hk
  have o1 := o.gm he
  have o2 := o.gm hk
  have l1 := o1.late63
  have l2 := o2.late63
  have el1 := o1.el
  have el2 := o2.el
  refine ⟨_, rfl, _, rfl, _, rfl, ld, s.demands, e, k, rfl, hd, o.n16, fun H1 lb s1 hb => ?_⟩
  have hms1 := s1 _ _ hms
  have g1 := s1 _ _ g1
  have g2 := s1 _ _ g2
  refine ⟨_, rfl, _, rfl, _, _, _, _, rfl, rfl, SqL.of hms1, (at_ref e2), _, _, _, _, _, rfl, g2, T.clMessage, T.nMessage_earliest, rfl, _, rfl, _, rfl, _, _, _, _, rfl, rfl, SqL.of hms1, (at_ref e1), _, _, _, _, _, rfl, g1, T.clMessage, T.nMessage_latest, rfl, _, _, rfl, rfl, ?_⟩
  refine ⟨_, rfl, _, rfl, _, _, _, _, rfl, rfl, SqL.of hms1, (at_ref e2), _, _, _, _, _, rfl, g2, T.clMessage, T.nMessage_latest, rfl, _, rfl, _, rfl, _, _, _, _, rfl, rfl, SqL.of hms1, (at_ref e1), _, _, _, _, _, rfl, g1, T.clMessage, T.nMessage_earliest, rfl, _, _, rfl, rfl, ?_⟩
  refine ⟨_, rfl, _, rfl, _, _, rfl, rfl, _, _, rfl, ⟨by omega, by omega, by omega, by omega⟩, ?_⟩
  refine for_range (fun i σ H' => H' = H1 ∧ ∃ (B : Nat) (v8 : Option V), σ = [some (.ref lm), some (.ref ld), some (.int e), some (.int k), some (.ref lb), some (.int (((gm s.msgs k).early : Int) - (gm s.msgs e).late)), some (.int (((gm s.msgs k).late : Int) - (gm s.msgs e).early)), some (.int B), v8] ∧
    ∀ j : Nat, B.testBit j = (decide (((gm s.msgs k).early : Int) - (gm s.msgs e).late + 63 ≤ j ∧ (j : Int) < ((gm s.msgs k).early : Int) - (gm s.msgs e).late + 63 + i) && fitL s e k ((j : Int) - 63))) ⟨rfl, 0, none, rfl, fun j => ?_⟩ ?_ ?_
  · rw [Nat.zero_testBit, decide_eq_false (by omega), Bool.false_and]
  · rintro i σ H2 hi ⟨rfl, B, v8, rfl, hB⟩
    refine ⟨_, rfl, _, rfl, _, rfl, _, rfl, _, rfl, lm, lb, s, e, k, _, rfl, hm.keep s1, hb, o, he, hk, _, rfl, ?_⟩
    obtain ⟨j0, ej⟩ : ∃ j0 : Nat, ((gm s.msgs k).early : Int) - (gm s.msgs e).late + (i : Nat) + 63 = (j0 : Nat) := ⟨(((gm s.msgs k).early : Int) - (gm s.msgs e).late + (i : Nat) + 63).toNat, by omega⟩
    have el : ((gm s.msgs k).early : Int) - (gm s.msgs e).late + (i : Nat) = (j0 : Int) - 63 := by omega
    refine ite2 (fun h => ?_) (fun h => ?_)
    · refine ⟨_, rfl, _, rfl, _, _, rfl, rfl, _, _, rfl, rfl, ⟨by omega, by omega, by decide⟩, _, _, rfl, rfl, rfl, B ||| 2 ^ j0, some (.int (((gm s.msgs k).early : Int) - (gm s.msgs e).late + (i : Nat))), ?_, fun j => ?_⟩
      · have eb : Builtin.bitOr (B : Int) (1 * 2 ^ (((gm s.msgs k).early : Int) - (gm s.msgs e).late + (i : Nat) + 63).toNat) = ((B ||| 2 ^ j0 : Nat) : Int) := by
          rw [ej, Int.toNat_natCast, Int.one_mul, two_pow_cast, Bits.bitOr_pp (Int.natCast_nonneg _) (Int.natCast_nonneg _), Int.toNat_natCast, Int.toNat_natCast]
        exact congrArg (fun z : Int => ([some (.ref lm), some (.ref ld), some (.int e), some (.int k), some (.ref lb), some (.int (((gm s.msgs k).early : Int) - (gm s.msgs e).late)), some (.int (((gm s.msgs k).late : Int) - (gm s.msgs e).early)), some (.int z), some (.int (((gm s.msgs k).early : Int) - (gm s.msgs e).late + (i : Nat)))] : L2.St)) eb
      · rw [Nat.testBit_or, hB, Nat.testBit_two_pow]
        rw [el] at h
        by_cases q : j0 = j
        · subst q
          rw [h, decide_eq_true (show j0 = j0 from rfl), Bool.or_true, Bool.and_true]
          exact (decide_eq_true (by omega)).symm
        · rw [decide_eq_false q, Bool.or_false]
          congr 1
          exact decide_eq_decide.mpr ⟨fun z => by omega, fun z => by omega⟩
    · refine ⟨rfl, B, _, rfl, fun j => ?_⟩
      rw [hB]
      rw [el] at h
      by_cases q : j0 = j
      · subst q
        rw [Bool.eq_false_iff.mpr h, Bool.and_false, Bool.and_false]
      · congr 1
        exact decide_eq_decide.mpr ⟨fun z => by omega, fun z => by omega⟩
  · rintro σ H2 ⟨rfl, B, v8, rfl, hB⟩
    refine ⟨_, rfl, fin H2 B s1 fun j => ?_⟩
    rw [hB]
    congr 1
    exact decide_eq_decide.mpr ⟨fun z => by omega, fun z => by omega⟩
end
def natV (l : List Nat) : List V := l.map fun b => .int (b : Nat)
theorem natV_len (l : List Nat) : (natV l).length = l.length := List.length_map ..
theorem at_nat {l : List Nat} {i b : Nat} (e : l[i]? = some b) : atI (natV l) (i : Int) = some (.int b) := atI_nat (by unfold natV; rw [List.getElem?_map, e]; rfl)
structure LeadsAt (H : Hp) (p : Addr) (s : Plan) (n : Nat) : Prop where
  ex : ∃ as : List Addr, H p = some (.lst (as.map V.ref)) ∧ as.length = n ∧ ∀ (k : Nat) (a : Addr), as[k]? = some a → a ≠ p ∧ ∃ Bs : List Nat, H a = some (.lst (natV Bs)) ∧ Bs.length = k ∧ ∀ (e B : Nat), Bs[e]? = some B → PairBits s e k B
theorem LeadsAt.keep {H H' : Hp} {p : Addr} {s : Plan} {n : Nat} (h : LeadsAt H p s n) (sm : Same H H') : LeadsAt H' p s n := by
  obtain ⟨as, h1, h2, h3⟩ := h.ex
  refine ⟨as, sm _ _ h1, h2, fun k a e => ?_⟩
  obtain ⟨g1, Bs, g2, g3, g4⟩ := h3 k a e
  exact ⟨g1, Bs, sm _ _ g2, g3, g4⟩
theorem LeadsAt.push {H : Hp} {p d : Addr} {s : Plan} {n : Nat} {xs : List V} {Bs : List Nat} (h : LeadsAt H p s n) (hx : H p = some (.lst xs)) (nd : d ≠ p) (hd : H d = some (.lst (natV Bs))) (hl : Bs.length = n) (hb : ∀ (e B : Nat), Bs[e]? = some B → PairBits s e n B) :
    LeadsAt (upd H p (.lst (xs ++ [.ref d]))) p s (n + 1) := by
  obtain ⟨as, h1, h2, h3⟩ := h.ex
  rw [h1] at hx
  have ex : xs = as.map V.ref := by injection hx with e; injection e with e; exact e.symm
  subst ex
  refine ⟨as ++ [d], by rw [upd_same, List.map_append]; rfl, by simp [h2], fun k a e => ?_⟩
  by_cases hi : k < as.length
  · rw [List.getElem?_append_left hi] at e
    obtain ⟨g1, Bs', g2, g3, g4⟩ := h3 k a e
    exact ⟨g1, Bs', by rw [upd_ne g1]; exact g2, g3, g4⟩
  · rw [List.getElem?_append_right (by omega)] at e
    have hl2 := (List.getElem?_eq_some_iff.mp e).1
    have z : k - as.length = 0 := by simp at hl2; omega
    have ek : k = n := by omega
    subst ek
    rw [z] at e
    have ea : d = a := Option.some.inj e
    subst ea
    exact ⟨nd, Bs, by rw [upd_ne nd]; exact hd, hl, hb⟩
def sp_fitting_leads (K : PySem.W.Frag) (A : Adr) : Sp := fun vs H Q _ => ∃ (lm ld : Addr) (s : Plan), vs = [.ref lm, .ref ld] ∧ MsgsAt A H lm s.msgs ∧ DemsAt A H ld s.demands ∧ OkP s ∧ ∀ (H' : Hp) (p : Addr), Same H H' → LeadsAt H' p s s.msgs.length → Q (.ref p) H'
section
variable {P : Program} {w : World} {K : PySem.W.Frag} {mg : Str → Option Value} {base : Heap} {A : Adr}
theorem ok_fitting_leads {f : Addr} {fd : FuncData} (F : Fun K "fitting_leads" "fitting_leads" s_fitting_leads f fd) (T : Txt K mg A) (c_pair_leads : CalX P w K mg base 5 "pair_leads" ["messages", "demands", "early", "late"] (sp_pair_leads K A)) : FnOk P w K mg base CX0 6 f fd ["messages", "demands"] (sp_fitting_leads K A) := by
  obtain ⟨f_pair_leads, fd_pair_leads, c_pair_leads⟩ := c_pair_leads
  have nd := sc_fitting_leads.nd
  refine F.ok sc_fitting_leads (fun vs H Q E h => ?_) (fun cdv Ar outer s H vs Q E hr h => ?_)
  · obtain ⟨lm, ld, s, rfl, hm, hd, o, fin⟩ := h; rfl
  obtain ⟨lm, ld, s, rfl, hm, hd, o, fin⟩ := h
  refine ⟨_, (pss_cons (ps_set (i := 2) nd rfl (Or.inl rfl) (pe_lst pa_nil))
 (pss_cons (ps_for PassesOwn.never rfl (pi_range1 rfl T.range (pa_cons (pe_callB call_len_seq (by rfl) T.len PySem.boot_len (pa_cons (pv 0) pa_nil)) pa_nil)) (pg_name (i := 3) nd rfl (Or.inr rfl))
 (pss_one (ps_expr (pe_bm PySem.F.plainAttrs_list PySem.F.slot_list_append PySem.F.type_list_append mt_append (pv 2) (pa_cons (pe_lc (own := [("early", 4)]) rfl nd (pi_range1 rfl T.range (pa_cons (pv 3) pa_nil)) (blkOk_by (N := ["messages", "demands", "rows", "late", "early"]) (sc := defScope s_fitting_leads) (by decide +kernel)) (fun _ _ _ _ _ => (pg_name (i := 4) nd rfl (Or.inl rfl))) (fun _ _ _ _ _ => pts_nil) (fun _ _ _ _ _ => (pe_call c_pair_leads.ok (hr.mono (by decide)) rfl c_pair_leads.gm c_pair_leads.kp c_pair_leads.b .nil pass0 (pa_cons (pv 0) (pa_cons (pv 1) (pa_cons (pv 4) (pa_cons (pv 3) pa_nil))))))) pa_nil)))))
 (pss_one (ps_ret (pv 2))))), ?_⟩
  have h8 := o.n8
  obtain ⟨ms, hms, hmn, hat⟩ := hm.adr
  have hlen : (ms.map V.ref).length = s.msgs.length := by rw [List.length_map, hmn]
  refine ⟨Nat.zero_le _, fun p hp => ?_⟩
  refine ⟨_, rfl, _, _, rfl, .inl (SqL.of ((Same.put hp) _ _ hms)), ((ms.map V.ref).length : Nat), rfl, by rw [hlen]; omega, by rw [hlen]; omega, ?_⟩
  rw [Int.toNat_natCast, hlen]
  refine for_range (fun k σ H' => ∃ v3 v4 : Option V, σ = [some (.ref lm), some (.ref ld), some (.ref p), v3, v4] ∧ Same H H' ∧ LeadsAt H' p s k) ⟨none, none, rfl, Same.put hp, [], upd_same, rfl, fun k a e => by simp at e⟩ ?_ ?_
  · rintro k σ H1 hk ⟨v3, v4, rfl, s1, B⟩
    have e0 : (0 : Int) + (k : Nat) = (k : Nat) := Int.zero_add _
    rw [e0]
    obtain ⟨as, has, hasn, _⟩ := B.ex
    refine ⟨_, rfl, .inl ⟨rfl, _, SqL.of has⟩, _, rfl, (k : Nat), rfl, by omega, by omega, fun D hD => ?_⟩
    rw [Int.toNat_natCast]
    have nD : D ≠ p := (ne_of_none has hD).symm
    refine lc_range (fun i H' => Same H1 H' ∧ ∃ Bs : List Nat, H' D = some (.lst (natV Bs)) ∧ Bs.length = i ∧ ∀ (e B : Nat), Bs[e]? = some B → PairBits s e k B) ⟨Same.put hD, [], upd_same, rfl, fun e B z => by simp at z⟩ ?_ ?_
    · rintro i H2 hi ⟨s2, Bs, hB, hBl, hBs⟩
      rw [show (0 : Int) + (i : Nat) = (i : Nat) from Int.zero_add _]
      refine ⟨rfl, ?_⟩
      refine ⟨_, rfl, _, rfl, _, rfl, _, rfl, lm, ld, s, i, k, rfl, hm.keep (s1.trans s2), hd.keep (s1.trans s2), o, by omega, hk, fun H3 B s3 pb => ⟨natV Bs, s3 _ _ hB, line_of (by rw [natV_len]; omega), ?_⟩⟩
      refine ⟨(s2.trans s3).new hD, Bs ++ [B], by rw [upd_same]; unfold natV; rw [List.map_append]; rfl, by simp [hBl], fun e B' z => ?_⟩
      by_cases he : e < Bs.length
      · rw [List.getElem?_append_left he] at z
        exact hBs e B' z
      · rw [List.getElem?_append_right (by omega)] at z
        have hl2 := (List.getElem?_eq_some_iff.mp z).1
        have z0 : e - Bs.length = 0 := by simp at hl2; omega
        have ee : e = i := by omega
        subst ee
        rw [z0] at z
        have eB : B = B' := Option.some.inj z
        subst eB
        exact pb
    · rintro H2 ⟨s2, Bs, hB, hBl, hBs⟩
      refine ⟨p, as.map V.ref, .ref D, rfl, rfl, s2 _ _ has, line_of (by rw [List.length_map]; omega), ?_⟩
      exact ⟨_, _, rfl, (s1.trans s2).new hp, (B.keep s2).push (s2 _ _ has) nD hB hBl hBs⟩
  · rintro σ H1 ⟨v3, v4, rfl, s1, B⟩
    exact ⟨_, rfl, fin H1 p s1 B⟩
end
def walkF (lm ll lc lr : Addr) (W : WS) : List (Str × V) := [(nm "messages", .ref lm), (nm "leads", .ref ll), (nm "size", .int W.size), (nm "budget", .int W.budget), (nm "chosen", .ref lc), (nm "looked", .int W.looked), (nm "rooms", .ref lr), (nm "tables", .int W.tables), (nm "ended", .bl W.ended)]
structure WalkP (A : Adr) (lm ll : Addr) (H0 H : Hp) (a dx lc lr : Addr) (W : WS) : Prop where
  ob : H a = some (.ins A.cWalk dx (walkF lm ll lc lr W))
  ch : H lc = some (.lst (natV W.chosen))
  ro : H lr = some (.lst (natV W.rooms))
  ne : lc ≠ lr
  a0 : H0 a = none
  c0 : H0 lc = none
  r0 : H0 lr = none
  same : Same H0 H
def WalkAt (A : Adr) (lm ll : Addr) (H0 H : Hp) (a : Addr) (W : WS) : Prop := ∃ dx lc lr, WalkP A lm ll H0 H a dx lc lr W
section
variable {A : Adr} {lm ll : Addr} {H0 H H' : Hp} {a dx lc lr : Addr} {W W' : WS}
theorem WalkP.nac (h : WalkP A lm ll H0 H a dx lc lr W) : lc ≠ a := ne_of h.ch h.ob (by intro z; cases z)
theorem WalkP.nar (h : WalkP A lm ll H0 H a dx lc lr W) : lr ≠ a := ne_of h.ro h.ob (by intro z; cases z)
theorem WalkP.keep (h : WalkP A lm ll H0 H a dx lc lr W) (s : Same H H') : WalkP A lm ll H0 H' a dx lc lr W := ⟨s _ _ h.ob, s _ _ h.ch, s _ _ h.ro, h.ne, h.a0, h.c0, h.r0, h.same.trans s⟩
theorem WalkP.set (h : WalkP A lm ll H0 H a dx lc lr W) (W' : WS) (e1 : W'.chosen = W.chosen) (e2 : W'.rooms = W.rooms) : WalkP A lm ll H0 (upd H a (.ins A.cWalk dx (walkF lm ll lc lr W'))) a dx lc lr W' :=
  ⟨upd_same, by rw [upd_ne h.nac, e1]; exact h.ch, by rw [upd_ne h.nar, e2]; exact h.ro, h.ne, h.a0, h.c0, h.r0, h.same.new h.a0⟩
theorem WalkP.setCh (h : WalkP A lm ll H0 H a dx lc lr W) (c : List Nat) : WalkP A lm ll H0 (upd H lc (.lst (natV c))) a dx lc lr { W with chosen := c } :=
  ⟨by rw [upd_ne h.nac.symm]; exact h.ob, upd_same, by rw [upd_ne h.ne.symm]; exact h.ro, h.ne, h.a0, h.c0, h.r0, h.same.new h.c0⟩
theorem WalkP.setRo (h : WalkP A lm ll H0 H a dx lc lr W) (r : List Nat) : WalkP A lm ll H0 (upd H lr (.lst (natV r))) a dx lc lr { W with rooms := r } :=
  ⟨by rw [upd_ne h.nar.symm]; exact h.ob, by rw [upd_ne h.ne]; exact h.ch, upd_same, h.ne, h.a0, h.c0, h.r0, h.same.new h.r0⟩
end
structure WSt (A : Adr) (s : Plan) (lm ll : Addr) (H0 : Hp) : Prop where
  ms : MsgsAt A H0 lm s.msgs
  ls : LeadsAt H0 ll s s.msgs.length
  ok : OkP s
def enterW (s : Plan) (W : WS) (R : Nat) : WS := if W.chosen.length = W.size then W else { W with looked := (gm s.msgs W.chosen.length).early, rooms := W.rooms.set W.chosen.length R }
def sp_Walk_is_full (K : PySem.W.Frag) (A : Adr) : Sp := fun vs H Q _ => ∃ (lm ll : Addr) (H0 : Hp) (a : Addr) (W : WS), vs = [.ref a] ∧ WalkAt A lm ll H0 H a W ∧ Q (.bl (decide (W.chosen.length = W.size))) H
def sp_Walk_enter_message (K : PySem.W.Frag) (A : Adr) : Sp := fun vs H Q _ => ∃ (s : Plan) (lm ll : Addr) (H0 : Hp) (a : Addr) (W : WS), vs = [.ref a] ∧ WSt A s lm ll H0 ∧ WalkAt A lm ll H0 H a W ∧ WPre s W ∧
  ∀ (H' : Hp) (R : Nat), WalkAt A lm ll H0 H' a (enterW s W R) → WOk s (enterW s W R) → Q .non H'
def sp_Walk_go_back (K : PySem.W.Frag) (A : Adr) : Sp := fun vs H Q _ => ∃ (lm ll : Addr) (H0 : Hp) (a : Addr) (W : WS), vs = [.ref a] ∧ WalkAt A lm ll H0 H a W ∧ W.chosen.length ≤ 8 ∧ ∀ (H' : Hp), WalkAt A lm ll H0 H' a (backW W) → Q .non H'
theorem ixN_nat {n j : Nat} (h : j < n) : ixN n (j : Int) = some j := by
  unfold ixN
  rw [if_pos (by omega), if_pos (by omega), Int.toNat_natCast]
theorem natV_set (l : List Nat) (i b : Nat) : (natV l).set i (.int (b : Nat)) = natV (l.set i b) := by
  unfold natV
  rw [List.map_set]
theorem natV_drop (l : List Nat) : (natV l).dropLast = natV l.dropLast := by
  unfold natV
  rw [List.map_dropLast]
theorem natV_snoc (l : List Nat) (b : Nat) : natV l ++ [.int (b : Nat)] = natV (l ++ [b]) := by
  unfold natV
  rw [List.map_append]; rfl
section
variable {P : Program} {w : World} {K : PySem.W.Frag} {mg : Str → Option Value} {base : Heap} {A : Adr}
theorem ok_Walk_is_full {f : Addr} {fd : FuncData} (F : Fun K "is_full" "Walk.is_full" s_Walk_is_full f fd) (T : Txt K mg A) : FnOk P w K mg base CX0 1 f fd ["self"] (sp_Walk_is_full K A) := by
  have nd := sc_Walk_is_full.nd
  refine F.ok sc_Walk_is_full (fun vs H Q E h => ?_) (fun cdv Ar outer s H vs Q E hr h => ?_)
  · obtain ⟨lm, ll, H0, a, W, rfl, ⟨dx, lc, lr, h⟩, k⟩ := h; rfl
  obtain ⟨lm, ll, H0, a, W, rfl, ⟨dx, lc, lr, h⟩, k⟩ := h
  refine ⟨_, (pss_one (ps_ret (pe_cmpR op_eq (pe_callB call_len_seq (by rfl) T.len PySem.boot_len (pa_cons (pe_fld (pv 0) rfl) pa_nil)) (pe_fld (pv 0) rfl) (nomark _)))), ?_⟩
  have h1 := h.ob
  refine ⟨_, rfl, _, _, _, _, _, rfl, h1, T.clWalk, T.nWalk_chosen, rfl, _, _, rfl, .inl (SqL.of h.ch), _, rfl, _, _, _, _, _, rfl, h1, T.clWalk, T.nWalk_size, rfl, rfl, ?_⟩
  have e : decide (V.int ((natV W.chosen).length : Int) = V.int (W.size : Int)) = decide (W.chosen.length = W.size) := by
    rw [natV_len]
    exact decide_eq_decide.mpr ⟨fun z => by injection z with z; omega, fun z => by rw [z]⟩
  rw [e]
  exact k
theorem ok_Walk_go_back {f : Addr} {fd : FuncData} (F : Fun K "go_back" "Walk.go_back" s_Walk_go_back f fd) (T : Txt K mg A) : FnOk P w K mg base CX0 1 f fd ["self"] (sp_Walk_go_back K A) := by
  have nd := sc_Walk_go_back.nd
  refine F.ok sc_Walk_go_back (fun vs H Q E h => ?_) (fun cdv Ar outer s H vs Q E hr h => ?_)
  · obtain ⟨lm, ll, H0, a, W, rfl, ⟨dx, lc, lr, h⟩, h8, k⟩ := h; rfl
  obtain ⟨lm, ll, H0, a, W, rfl, ⟨dx, lc, lr, h⟩, h8, k⟩ := h
  refine ⟨_, (pss_one (ps_if (pt_cmpR op_eq (pe_callB call_len_seq (by rfl) T.len PySem.boot_len (pa_cons (pe_fld (pv 0) rfl) pa_nil)) pe_int (nomark _))
 (pss_one (ps_fld (pv 0) pe_bl rfl))
 (pss_one (ps_fld (pv 0) (pe_op op_add (pe_bm0 PySem.F.plainAttrs_list PySem.F.slot_list_pop PySem.F.type_list_pop mt_pop (pe_fld (pv 0) rfl)) pe_int) rfl)))), ?_⟩
  have h1 := h.ob
  refine ⟨_, rfl, _, _, _, _, _, rfl, h1, T.clWalk, T.nWalk_chosen, rfl, _, _, rfl, .inl (SqL.of h.ch), rfl, _, rfl, ?_⟩
  unfold backW at k
  cases e : W.chosen.getLast? with
  | none =>
    have e0 : W.chosen = [] := List.getLast?_eq_none_iff.mp e
    rw [e] at k
    rw [e0]
    refine iteT ⟨_, rfl, a, _, dx, _, rfl, h1, T.clWalk, T.nWalk_ended, (by show 9 < 1000; decide), ?_⟩
    exact k _ ⟨dx, lc, lr, h.set { W with ended := true } rfl rfl⟩
  | some y =>
    have ec := getLast?_some e
    rw [e] at k
    have hne : ¬ ((natV W.chosen).length : Int) = 0 := by
      rw [natV_len, ec, List.length_append, List.length_singleton]; omega
    have hd : decide (V.int ((natV W.chosen).length : Int) = V.int 0) = false := decide_eq_false (by intro z; injection z with z; exact hne z)
    rw [hd]
    refine iteF ⟨_, rfl, _, _, _, _, _, rfl, h1, T.clWalk, T.nWalk_chosen, rfl, .inl ⟨rfl, _, SqL.of h.ch⟩, lc, _, .int (y : Nat), rfl, rfl, h.ch, ?_, ?_⟩
    · rw [natV_len]
      unfold natV
      rw [List.getElem?_map, ← List.getLast?_eq_getElem?, e]; rfl
    · rw [natV_drop]
      have h2 := h.setCh W.chosen.dropLast
      have h3 := h2.ob
      refine ⟨_, _, rfl, rfl, _, rfl, a, _, dx, _, rfl, h3, T.clWalk, T.nWalk_looked, (by show 9 < 1000; decide), ?_⟩
      exact k _ ⟨dx, lc, lr, h2.set { W with chosen := W.chosen.dropLast, looked := y + 1 } rfl rfl⟩
end
theorem shr_nat (B n : Nat) : (B : Int) / 2 ^ n = ((B >>> n : Nat) : Int) := by
  rw [Nat.shiftRight_eq_div_pow, two_pow_cast, Int.natCast_ediv]
theorem and_nat (a b : Nat) : Builtin.bitAnd (a : Int) (b : Int) = ((a &&& b : Nat) : Int) := by
  rw [bitAnd_pp (Int.natCast_nonneg _) (Int.natCast_nonneg _), Int.toNat_natCast, Int.toNat_natCast]
def sp_Walk_take_step (K : PySem.W.Frag) (A : Adr) : Sp := fun vs H Q _ => ∃ (s : Plan) (lm ll : Addr) (H0 : Hp) (a : Addr) (W : WS), vs = [.ref a] ∧ WSt A s lm ll H0 ∧ WalkAt A lm ll H0 H a W ∧ WOk s W ∧ 1 ≤ W.budget ∧ W.ended = false ∧
  ∀ (H' : Hp) (r : List Nat), WalkAt A lm ll H0 H' a { stepW s W with rooms := r } → WOk s { stepW s W with rooms := r } → Q .non H'
def sp_Walk_init (K : PySem.W.Frag) (A : Adr) : Sp := fun vs H Q _ => ∃ (s : Plan) (lm ll : Addr) (H0 : Hp) (a dx : Addr) (n b : Nat), vs = [.ref a, .ref lm, .ref ll, .int n, .int b] ∧ WSt A s lm ll H0 ∧ H a = some (.ins A.cWalk dx []) ∧ H0 a = none ∧ Same H0 H ∧ n ≤ s.msgs.length ∧
  ∀ (H' : Hp) (W : WS), WalkAt A lm ll H0 H' a W → WOk s W → W.size = n → W.budget = b → W.chosen = [] → (0 < n → W.looked = (gm s.msgs 0).early) → W.tables = 0 → W.ended = false → Q .non H'
section
variable {P : Program} {w : World} {K : PySem.W.Frag} {mg : Str → Option Value} {base : Heap} {A : Adr}
theorem ok_Walk_enter_message {f : Addr} {fd : FuncData} (F : Fun K "enter_message" "Walk.enter_message" s_Walk_enter_message f fd) (T : Txt K mg A) (c_is_full : MtX P w K mg base 1 A.cWalk "is_full" ["self"] (sp_Walk_is_full K A)) : FnOk P w K mg base CX0 2 f fd ["self"] (sp_Walk_enter_message K A) := by
  obtain ⟨f_is_full, fd_is_full, c_is_full⟩ := c_is_full
  have nd := sc_Walk_enter_message.nd
  refine F.ok sc_Walk_enter_message (fun vs H Q E h => ?_) (fun cdv Ar outer s H vs Q E hr h => ?_)
  · obtain ⟨s, lm, ll, H0, a, W, rfl, st, ⟨dx, lc, lr, h⟩, hp, k⟩ := h; rfl
  obtain ⟨s, lm, ll, H0, a, W, rfl, st, ⟨dx, lc, lr, h⟩, hp, k⟩ := h
  refine ⟨_, (pss_cons (ps_if (pt_val (pe_meth0 (pv 0) T.clWalk c_is_full.me c_is_full.ok (hr.mono (by decide)) c_is_full.b .nil pass0))
 (pss_one ps_retN)
 pss_nil)
 (pss_cons (ps_set (i := 1) nd rfl (Or.inl rfl) (pe_callB call_len_seq (by rfl) T.len PySem.boot_len (pa_cons (pe_fld (pv 0) rfl) pa_nil)))
 (pss_cons (ps_set (i := 2) nd rfl (Or.inl rfl) (pe_ix ix_list (pe_fld (pv 0) rfl) (pv 1) (fun _ _ => rfl)))
 (pss_cons (ps_fld (pv 0) (pe_fld (pv 2) rfl) rfl)
 (pss_cons (ps_set (i := 3) nd rfl (Or.inl rfl) (pe_op op_sub (pe_op op_shl pe_int (pe_op op_add (pe_fld (pv 2) rfl) pe_int)) pe_int))
 (pss_cons (ps_for PassesOwn.never rfl (pi_enum rfl T.enumerate (pa_cons (pe_fld (pv 0) rfl) pa_nil)) (pg_tup rfl (pgs_cons (pg_name (i := 4) nd rfl (Or.inl rfl)) (pgs_cons (pg_name (i := 5) nd rfl (Or.inl rfl)) pgs_nil)))
 (pss_one (ps_set (i := 3) nd rfl (Or.inl rfl) (pe_op op_and (pv 3) (pe_op op_shr (pe_ix ix_list (pe_ix ix_list (pe_fld (pv 0) rfl) (pv 1) (fun _ _ => rfl)) (pv 4) (fun _ _ => rfl)) (pe_op op_sub (pe_cst rfl T.g_LEAD_SHIFT) (pv 5)))))))
 (pss_one (ps_asg (pv 3) (pg_sub (pe_fld (pv 0) rfl) (pv 1) set_list))))))))), ?_⟩
  have h1 := h.ob
  have o := st.ok
  have h8 := o.n8
  refine ⟨_, rfl, a, dx, _, rfl, h1, rfl, lm, ll, H0, a, W, rfl, ⟨dx, lc, lr, h⟩, _, rfl, ?_⟩
  refine ite2 (fun hf => ?_) (fun hf => ?_)
  · have hf := of_decide_eq_true hf
    have e : ∀ R, enterW s W R = W := fun R => by unfold enterW; rw [if_pos hf]
    have q := k H 0
    rw [e] at q
    exact q ⟨dx, lc, lr, h⟩ (hp.full hf)
  have hf : ¬ W.chosen.length = W.size := fun z => hf (decide_eq_true z)
  have hlt : W.chosen.length < W.size := by have := hp.le; omega
  have hk : W.chosen.length < s.msgs.length := by have := hp.sz; omega
  obtain ⟨ms, hms, hmn, hat⟩ := (st.ms.keep h.same).adr
  obtain ⟨am, dxm, em, gm0⟩ := hat W.chosen.length hk
  have om := o.gm hk
  have l63 := om.late63
  refine ⟨_, rfl, _, _, _, _, _, rfl, h1, T.clWalk, T.nWalk_chosen, rfl, _, _, rfl, .inl (SqL.of h.ch), ?_⟩
  rw [natV_len]
  refine ⟨_, rfl, _, _, _, _, _, rfl, h1, T.clWalk, T.nWalk_messages, rfl, _, rfl, _, _, _, _, rfl, rfl, SqL.of hms, (at_ref em), ?_⟩
  refine ⟨_, rfl, _, _, _, _, _, rfl, gm0, T.clMessage, T.nMessage_earliest, rfl, _, rfl, a, _, dx, _, rfl, h1, T.clWalk, T.nWalk_looked, (by show 9 < 1000; decide), ?_⟩
  have q2 := h.set { W with looked := (gm s.msgs W.chosen.length).early } rfl rfl
  have nam : am ≠ a := ne_of gm0 h1 (by
    intro z; injection z with z1 z2 z3
    exact absurd (congrArg List.length z3) (by show ¬ (5 = 9); decide))
  have gm1 : (upd H a (.ins A.cWalk dx (walkF lm ll lc lr { W with looked := (gm s.msgs W.chosen.length).early }))) am = some (.ins A.cMessage dxm (msgF (gm s.msgs W.chosen.length))) := by rw [upd_ne nam]; exact gm0
  show tSeq _ _ _ _ (upd H a (.ins A.cWalk dx (walkF lm ll lc lr { W with looked := (gm s.msgs W.chosen.length).early })))
  generalize upd H a (.ins A.cWalk dx (walkF lm ll lc lr { W with looked := (gm s.msgs W.chosen.length).early })) = H2 at q2 gm1
  have h2 := q2.ob
  refine ⟨_, rfl, _, _, _, _, _, rfl, gm1, T.clMessage, T.nMessage_latest, rfl, _, _, rfl, rfl, _, _, rfl, rfl, ⟨by omega, by omega, by decide⟩, _, _, rfl, rfl, ?_⟩
  have e0 : (1 : Int) * 2 ^ (((gm s.msgs W.chosen.length).late : Int) + 1).toNat - 1 = ((2 ^ ((gm s.msgs W.chosen.length).late + 1) - 1 : Nat) : Int) := by
    have hpos : 0 < 2 ^ ((gm s.msgs W.chosen.length).late + 1) := Nat.two_pow_pos _
    rw [show (((gm s.msgs W.chosen.length).late : Int) + 1).toNat = (gm s.msgs W.chosen.length).late + 1 by omega, Int.one_mul, two_pow_cast]
    omega
  refine ⟨_, rfl, _, _, _, _, _, rfl, h2, T.clWalk, T.nWalk_chosen, rfl, _, _, rfl, SqL.of q2.ch, ?_⟩
  refine for_enum (xs := natV W.chosen) (fun i σ H' => Same H2 H' ∧ ∃ (R : Nat) (v4 v5 : Option V), σ = [some (.ref a), some (.int (W.chosen.length : Nat)), some (.ref am), some (.int R), v4, v5] ∧ RoomTo s W.chosen i R) ⟨Same.refl _, _, none, none, ?_, room_zero s W.chosen⟩ (fun i σ H' _ ⟨s1, _⟩ => SqL.of (s1 _ _ q2.ch)) ?_ ?_
  · exact congrArg (fun z : Int => ([some (.ref a), some (.int (W.chosen.length : Nat)), some (.ref am), some (.int z), none, none] : L2.St)) e0
  · rintro i x σ H3 u hx hu ⟨s1, R, v4, v5, rfl, hR⟩
    have hi : i < W.chosen.length := by rw [← natV_len]; exact (List.getElem?_eq_some_iff.mp hx).1
    obtain ⟨b, hb⟩ : ∃ b, W.chosen[i]? = some b := ⟨_, List.getElem?_eq_getElem hi⟩
    have ex : x = .int (b : Nat) := by unfold natV at hx; rw [List.getElem?_map, hb] at hx; exact (Option.some.inj hx).symm
    subst ex
    have b63 : b ≤ 63 := by have := (hp.win i b hb).2; have := (o.gm (show i < s.msgs.length by omega)).late63; omega
    refine ⟨u, _, rfl, SqT.of upd_same, rfl, _, _, rfl, _, _, rfl, rfl, ?_⟩
    have s2 : Same H2 (upd H3 u (.tup [.int (i : Nat), .int (b : Nat)])) := s1.new (s1.free hu)
    generalize upd H3 u (.tup [.int (i : Nat), .int (b : Nat)]) = H4 at s2
    have q4 := q2.keep s2
    have h4 := q4.ob
    obtain ⟨as, has, hasn, hrow⟩ := (st.ls.keep q4.same).ex
    obtain ⟨ak, eak⟩ : ∃ ak, as[W.chosen.length]? = some ak := ⟨_, List.getElem?_eq_getElem (by omega)⟩
    obtain ⟨_, Bs, hBs, hBl, hB⟩ := hrow _ ak eak
    obtain ⟨B, eB⟩ : ∃ B, Bs[i]? = some B := ⟨_, List.getElem?_eq_getElem (by omega)⟩
    refine ⟨_, rfl, _, rfl, _, _, _, _, _, rfl, h4, T.clWalk, T.nWalk_leads, rfl, _, rfl, _, _, _, _, rfl, rfl, SqL.of has, (at_ref eak), _, rfl, _, _, _, _, rfl, rfl, SqL.of hBs, (at_nat eB), _, rfl, _, _, rfl, rfl, _, _, rfl, rfl, (by omega), _, _, rfl, rfl, s2, R &&& (B >>> (63 - b)), some (.int (i : Nat)), some (.int (b : Nat)), ?_, room_succ o hp.win hk hR hb (hB i B eB)⟩
    have e1 : Builtin.bitAnd (R : Int) ((B : Int) / 2 ^ ((63 : Int) - (b : Nat)).toNat) = ((R &&& (B >>> (63 - b)) : Nat) : Int) := by
      rw [show ((63 : Int) - (b : Nat)).toNat = 63 - b by omega, shr_nat, and_nat]
    exact congrArg (fun z : Int => ([some (.ref a), some (.int (W.chosen.length : Nat)), some (.ref am), some (.int z), some (.int (i : Nat)), some (.int (b : Nat))] : L2.St)) e1
  · rintro σ H3 ⟨s1, R, v4, v5, rfl, hR⟩
    rw [natV_len] at hR
    have q3 := q2.keep s1
    have h3 := q3.ob
    refine ⟨_, rfl, _, rfl, _, _, _, _, _, rfl, h3, T.clWalk, T.nWalk_rooms, rfl, _, rfl, lr, _, _, W.chosen.length, rfl, rfl, q3.ro, ?_, ?_⟩
    · rw [natV_len]
      exact ixN_nat (show W.chosen.length < W.rooms.length by rw [hp.rl]; exact hlt)
    · have e : enterW s W R = { W with looked := (gm s.msgs W.chosen.length).early, rooms := W.rooms.set W.chosen.length R } := by unfold enterW; rw [if_neg hf]
      have q := k (upd H3 lr (.lst (natV (W.rooms.set W.chosen.length R)))) R
      rw [e] at q
      show Q .non (upd H3 lr (.lst ((natV W.rooms).set W.chosen.length (.int (R : Nat)))))
      rw [natV_set]
      exact q ⟨dx, lc, lr, q3.setRo _⟩ (hp.enter hlt (room_done o hp.chain hk hR))
theorem ok_Walk_take_step {f : Addr} {fd : FuncData} (F : Fun K "take_step" "Walk.take_step" s_Walk_take_step f fd) (T : Txt K mg A) (c_go_back : MtX P w K mg base 1 A.cWalk "go_back" ["self"] (sp_Walk_go_back K A)) (c_enter_message : MtX P w K mg base 2 A.cWalk "enter_message" ["self"] (sp_Walk_enter_message K A)) : FnOk P w K mg base CX0 3 f fd ["self"] (sp_Walk_take_step K A) := by
  obtain ⟨f_go_back, fd_go_back, c_go_back⟩ := c_go_back
  obtain ⟨f_enter_message, fd_enter_message, c_enter_message⟩ := c_enter_message
  have nd := sc_Walk_take_step.nd
  refine F.ok sc_Walk_take_step (fun vs H Q E h => ?_) (fun cdv Ar outer s H vs Q E hr h => ?_)
  · obtain ⟨s, lm, ll, H0, a, W, rfl, st, ⟨dx, lc, lr, h⟩, hok, hb, he, k⟩ := h; rfl
  obtain ⟨s, lm, ll, H0, a, W, rfl, st, ⟨dx, lc, lr, h⟩, hok, hb, he, k⟩ := h
  refine ⟨_, (pss_cons (ps_fldaug (pv 0) pe_int in_sub)
 (pss_cons (ps_set (i := 1) nd rfl (Or.inl rfl) (pe_callB call_len_seq (by rfl) T.len PySem.boot_len (pa_cons (pe_fld (pv 0) rfl) pa_nil)))
 (pss_one (ps_if (pt_cmpR op_eq (pv 1) (pe_fld (pv 0) rfl) (nomark _))
 (pss_cons (ps_fldaug (pv 0) pe_int in_add)
 (pss_one (ps_expr (pe_meth0 (pv 0) T.clWalk c_go_back.me c_go_back.ok (hr.mono (by decide)) c_go_back.b .nil pass0))))
 (pss_one (ps_if (pt_cmpR op_gt (pe_fld (pv 0) rfl) (pe_fld (pe_ix ix_list (pe_fld (pv 0) rfl) (pv 1) (fun _ _ => rfl)) rfl) (nomark _))
 (pss_one (ps_expr (pe_meth0 (pv 0) T.clWalk c_go_back.me c_go_back.ok (hr.mono (by decide)) c_go_back.b .nil pass0)))
 (pss_one (ps_if (pt_cmpR op_eq (pe_op op_and (pe_op op_shr (pe_ix ix_list (pe_fld (pv 0) rfl) (pv 1) (fun _ _ => rfl)) (pe_fld (pv 0) rfl)) pe_int) pe_int (nomark _))
 (pss_cons (ps_expr (pe_bm PySem.F.plainAttrs_list PySem.F.slot_list_append PySem.F.type_list_append mt_append (pe_fld (pv 0) rfl) (pa_cons (pe_fld (pv 0) rfl) pa_nil)))
 (pss_one (ps_expr (pe_meth0 (pv 0) T.clWalk c_enter_message.me c_enter_message.ok (hr.mono (by decide)) c_enter_message.b .nil pass0))))
 (pss_one (ps_fldaug (pv 0) pe_int in_add)))))))))), ?_⟩
  have o := st.ok
  have h8 := o.n8
  have hle := hok.le
  have hsz := hok.sz
  have h1 := h.ob
  refine ⟨_, rfl, _, _, _, _, _, rfl, h1, T.clWalk, T.nWalk_budget, rfl, _, _, rfl, rfl, _, _, h1, (by show 9 < 1000; decide), ?_⟩
  have q2 := h.set { W with budget := W.budget - 1 } rfl rfl
  have eb : (W.budget : Int) - 1 = ((W.budget - 1 : Nat) : Int) := by omega
  rw [eb]
  show tSeq _ _ _ _ (upd H a (.ins A.cWalk dx (walkF lm ll lc lr { W with budget := W.budget - 1 })))
  generalize upd H a (.ins A.cWalk dx (walkF lm ll lc lr { W with budget := W.budget - 1 })) = H2 at q2
  have h2 := q2.ob
  refine ⟨_, rfl, _, _, _, _, _, rfl, h2, T.clWalk, T.nWalk_chosen, rfl, _, _, rfl, .inl (SqL.of q2.ch), ?_⟩
  rw [natV_len]
  refine ⟨_, rfl, _, rfl, _, _, _, _, _, rfl, h2, T.clWalk, T.nWalk_size, rfl, rfl, _, rfl, ?_⟩
  have ed : decide (V.int (W.chosen.length : Int) = V.int (W.size : Int)) = decide (W.chosen.length = W.size) := decide_eq_decide.mpr ⟨fun z => by injection z with z; omega, fun z => by rw [z]⟩
  show if decide (V.int (W.chosen.length : Int) = V.int (W.size : Int)) = true then _ else _
  rw [ed]
  unfold stepW at k
  refine ite2 (fun hf => ?_) (fun hf => ?_)
  · have hf := of_decide_eq_true hf
    rw [if_pos hf] at k
    refine ⟨_, rfl, _, _, _, _, _, rfl, h2, T.clWalk, T.nWalk_tables, rfl, _, _, rfl, rfl, _, _, h2, (by show 9 < 1000; decide), ?_⟩
    have q3 := q2.set { W with budget := W.budget - 1, tables := W.tables + 1 } rfl rfl
    have et : (W.tables : Int) + 1 = ((W.tables + 1 : Nat) : Int) := by omega
    rw [et]
    refine ⟨_, rfl, a, dx, _, rfl, q3.ob, rfl, lm, ll, H0, a, _, rfl, ⟨dx, lc, lr, q3⟩, (by show W.chosen.length ≤ 8; omega), fun H4 w4 => ?_⟩
    have ok2 := back_ok (hok.pay (W.budget - 1) (W.tables + 1)) (fun z => by
      show 0 < W.size
      have : W.chosen ≠ [] := z
      have := List.length_pos_iff.mpr this
      omega)
    have er : ∀ U : WS, { backW U with rooms := (backW U).rooms } = backW U := fun U => rfl
    exact k H4 (backW { W with budget := W.budget - 1, tables := W.tables + 1 }).rooms w4 ok2
  have hf : ¬ W.chosen.length = W.size := fun z => hf (decide_eq_true z)
  have hlt : W.chosen.length < W.size := by omega
  have hk : W.chosen.length < s.msgs.length := by omega
  rw [if_neg hf] at k
  obtain ⟨ms, hms, hmn, hat⟩ := (st.ms.keep q2.same).adr
  obtain ⟨am, dxm, em, gm0⟩ := hat W.chosen.length hk
  have om := o.gm hk
  have l63 := om.late63
  refine ⟨_, rfl, _, _, _, _, _, rfl, h2, T.clWalk, T.nWalk_looked, rfl, _, rfl, _, _, _, _, _, rfl, h2, T.clWalk, T.nWalk_messages, rfl, _, rfl, _, _, _, _, rfl, rfl, SqL.of hms, (at_ref em), _, _, _, _, _, rfl, gm0, T.clMessage, T.nMessage_latest, rfl, _, _, rfl, rfl, _, rfl, ?_⟩
  refine ite2 (fun hl => ?_) (fun hl => ?_)
  · have hl : (gm s.msgs W.chosen.length).late < W.looked := by
      have z : ((gm s.msgs W.chosen.length).late : Int) < (W.looked : Int) := of_decide_eq_true hl
      omega
    rw [if_pos hl] at k
    refine ⟨_, rfl, a, dx, _, rfl, q2.ob, rfl, lm, ll, H0, a, _, rfl, ⟨dx, lc, lr, q2⟩, (by show W.chosen.length ≤ 8; omega), fun H4 w4 => ?_⟩
    have ok2 := back_ok (hok.pay (W.budget - 1) W.tables) (fun z => by show 0 < W.size; omega)
    exact k H4 (backW { W with budget := W.budget - 1 }).rooms w4 ok2
  have hl : ¬ (gm s.msgs W.chosen.length).late < W.looked := fun z => hl (decide_eq_true (show ((gm s.msgs W.chosen.length).late : Int) < (W.looked : Int) by omega))
  rw [if_neg hl] at k
  obtain ⟨R, eR⟩ : ∃ R, W.rooms[W.chosen.length]? = some R := ⟨_, List.getElem?_eq_getElem (by rw [hok.rl]; exact hlt)⟩
  have hR := hok.rooms _ R eR (Nat.le_refl _)
  rw [List.take_length] at hR
  have bit := hR W.looked (hok.look hlt) (by omega)
  refine ⟨_, rfl, _, _, _, _, _, rfl, h2, T.clWalk, T.nWalk_rooms, rfl, _, rfl, _, _, _, _, rfl, rfl, SqL.of q2.ro, (at_nat eR), _, rfl, _, _, _, _, _, rfl, h2, T.clWalk, T.nWalk_looked, rfl, _, _, rfl, rfl, (by omega), _, _, rfl, rfl, rfl, _, rfl, ?_⟩
  have e1 : decide (V.int (Builtin.bitAnd ((R : Int) / 2 ^ (W.looked : Int).toNat) 1) = V.int 1) = Vbavab.fits s W.chosen W.looked := by
    have z1 : Builtin.bitAnd ((R : Int) / 2 ^ (W.looked : Int).toNat) 1 = (((R >>> W.looked) &&& 1 : Nat) : Int) := by
      rw [Int.toNat_natCast, shr_nat]
      exact and_nat _ 1
    rw [z1, ← bit, Nat.testBit, Nat.and_one_is_mod, Nat.one_and_eq_mod_two]
    have hm : R >>> W.looked % 2 = 0 ∨ R >>> W.looked % 2 = 1 := by omega
    rcases hm with hm | hm <;> rw [hm] <;> rfl
  show if decide (V.int (Builtin.bitAnd ((R : Int) / 2 ^ (W.looked : Int).toNat) 1) = V.int 1) = true then _ else _
  rw [e1]
  refine ite2 (fun hfit => ?_) (fun hfit => ?_)
  · rw [if_pos hfit] at k
    refine ⟨_, rfl, _, _, _, _, _, rfl, h2, T.clWalk, T.nWalk_chosen, rfl, .inl ⟨rfl, _, SqL.of q2.ch⟩, _, rfl, _, _, _, _, _, rfl, h2, T.clWalk, T.nWalk_looked, rfl, lc, _, _, rfl, rfl, q2.ch, line_of (by rw [natV_len]; show W.chosen.length ≤ _; omega), ?_⟩
    have q3 : WalkP A lm ll H0 (upd H2 lc (.lst (natV W.chosen ++ [.int (W.looked : Nat)]))) a dx lc lr { W with budget := W.budget - 1, chosen := W.chosen ++ [W.looked] } := by
      rw [natV_snoc]
      exact q2.setCh (W.chosen ++ [W.looked])
    have pre := hok.snoc hlt (by omega) hfit (W.budget - 1)
    refine ⟨_, rfl, a, dx, _, rfl, q3.ob, rfl, s, lm, ll, H0, a, _, rfl, st, ⟨dx, lc, lr, q3⟩, pre, fun H4 R' w4 ok4 => ?_⟩
    have ee : enterW s { W with budget := W.budget - 1, chosen := W.chosen ++ [W.looked] } R' = { W with budget := W.budget - 1, chosen := W.chosen ++ [W.looked], looked := if W.chosen.length + 1 = W.size then W.looked else (gm s.msgs (W.chosen.length + 1)).early, rooms := (enterW s { W with budget := W.budget - 1, chosen := W.chosen ++ [W.looked] } R').rooms } := by
      unfold enterW
      have hl2 : (W.chosen ++ [W.looked]).length = W.chosen.length + 1 := by rw [List.length_append, List.length_singleton]
      simp only [hl2]
      by_cases q : W.chosen.length + 1 = W.size
      · rw [if_pos q]; simp only [if_pos q]
      · rw [if_neg q]; simp only [if_neg q]
    have q := k H4 (enterW s { W with budget := W.budget - 1, chosen := W.chosen ++ [W.looked] } R').rooms
    rw [ee] at w4 ok4
    exact q w4 ok4
  · rw [if_neg hfit] at k
    refine ⟨_, rfl, _, _, _, _, _, rfl, h2, T.clWalk, T.nWalk_looked, rfl, _, _, rfl, rfl, _, _, h2, (by show 9 < 1000; decide), ?_⟩
    have et : (W.looked : Int) + 1 = ((W.looked + 1 : Nat) : Int) := by omega
    rw [et]
    exact k _ W.rooms ⟨dx, lc, lr, q2.set { W with budget := W.budget - 1, looked := W.looked + 1 } rfl rfl⟩ (hok.next (W.budget - 1))
end
theorem natV_zeros : ∀ n : Nat, (List.replicate n [V.int 0]).flatten = natV (List.replicate n 0)
  | 0 => rfl
  | n + 1 => by
    rw [List.replicate_succ, List.flatten_cons, natV_zeros n, List.replicate_succ]
    rfl
def sp_search_table (K : PySem.W.Frag) (A : Adr) : Sp := fun vs H Q _ => ∃ (s : Plan) (lm ll : Addr) (n b : Nat), vs = [.ref lm, .ref ll, .int n, .int b] ∧ WSt A s lm ll H ∧ n ≤ s.msgs.length ∧
  ∀ (H' : Hp) (x : Addr) (W : WS), WalkAt A lm ll H H' x W → W.size = n → W.chosen.length ≤ n → resS s W = Vbavab.searched s n b → (W.ended = true → W.chosen.length < n) → (W.chosen.length = n ∨ W.ended = true ∨ W.budget = 0) → InWin s W.chosen → Q (.ref x) H'
def sp_count_tables (K : PySem.W.Frag) (A : Adr) : Sp := fun vs H Q _ => ∃ (s : Plan) (lm ll : Addr) (n b : Nat), vs = [.ref lm, .ref ll, .int n, .int b] ∧ WSt A s lm ll H ∧ n ≤ s.msgs.length ∧
  ∀ (H' : Hp) (x : Addr) (W : WS), WalkAt A lm ll H H' x W → resC s W = Vbavab.countAll s n b [] (gm s.msgs 0).early 0 → (W.ended = true ∨ W.budget = 0) → Q (.ref x) H'
section
variable {P : Program} {w : World} {K : PySem.W.Frag} {mg : Str → Option Value} {base : Heap} {A : Adr}
theorem ok_Walk_init {f : Addr} {fd : FuncData} (F : Fun K "__init__" "Walk.__init__" s_Walk_init f fd) (T : Txt K mg A) (c_enter_message : MtX P w K mg base 2 A.cWalk "enter_message" ["self"] (sp_Walk_enter_message K A)) : FnOk P w K mg base CX0 3 f fd ["self", "messages", "leads", "size", "budget"] (sp_Walk_init K A) := by
  obtain ⟨f_enter_message, fd_enter_message, c_enter_message⟩ := c_enter_message
  have nd := sc_Walk_init.nd
  refine F.ok sc_Walk_init (fun vs H Q E h => ?_) (fun cdv Ar outer s H vs Q E hr h => ?_)
  · obtain ⟨s, lm, ll, H0, a, dx, n, b, rfl, st, hA, a0, sm, hn, k⟩ := h; rfl
  obtain ⟨s, lm, ll, H0, a, dx, n, b, rfl, st, hA, a0, sm, hn, k⟩ := h
  refine ⟨_, (pss_cons (ps_fld (pv 0) (pv 1) rfl)
 (pss_cons (ps_fld (pv 0) (pv 2) rfl)
 (pss_cons (ps_fld (pv 0) (pv 3) rfl)
 (pss_cons (ps_fld (pv 0) (pv 4) rfl)
 (pss_cons (ps_fld (pv 0) (pe_lst pa_nil) rfl)
 (pss_cons (ps_fld (pv 0) pe_int rfl)
 (pss_cons (ps_fld (pv 0) (pe_op op_rep (pe_lst (pa_cons pe_int pa_nil)) (pv 3)) rfl)
 (pss_cons (ps_fld (pv 0) pe_int rfl)
 (pss_cons (ps_fld (pv 0) pe_bl rfl)
 (pss_one (ps_expr (pe_meth0 (pv 0) T.clWalk c_enter_message.me c_enter_message.ok (hr.mono (by decide)) c_enter_message.b .nil pass0)))))))))))), ?_⟩
  have h8 := st.ok.n8
  refine ⟨_, rfl, _, rfl, a, _, dx, _, rfl, hA, T.clWalk, T.nWalk_messages, Nat.le_of_ble_eq_true rfl, ?_⟩
  have hA1 := upd_same (H := H) (a := a) (o := .ins A.cWalk dx [(nm "messages", .ref lm)])
  have s1 := sm.new (p := a) (o := .ins A.cWalk dx [(nm "messages", .ref lm)]) a0
  refine ⟨_, rfl, _, rfl, a, _, dx, _, rfl, hA1, T.clWalk, T.nWalk_leads, Nat.le_of_ble_eq_true rfl, ?_⟩
  refine ⟨_, rfl, _, rfl, a, _, dx, _, rfl, upd_same, T.clWalk, T.nWalk_size, Nat.le_of_ble_eq_true rfl, ?_⟩
  refine ⟨_, rfl, _, rfl, a, _, dx, _, rfl, upd_same, T.clWalk, T.nWalk_budget, Nat.le_of_ble_eq_true rfl, ?_⟩
  rw [upd_upd, upd_upd, upd_upd]
  have hA4 : (upd H a (.ins A.cWalk dx [(nm "messages", .ref lm), (nm "leads", .ref ll), (nm "size", .int n), (nm "budget", .int b)])) a = some (.ins A.cWalk dx [(nm "messages", .ref lm), (nm "leads", .ref ll), (nm "size", .int n), (nm "budget", .int b)]) := upd_same
  have s4 : Same H0 (upd H a (.ins A.cWalk dx [(nm "messages", .ref lm), (nm "leads", .ref ll), (nm "size", .int n), (nm "budget", .int b)])) := sm.new a0
  show tSeq _ _ _ _ (upd H a (.ins A.cWalk dx [(nm "messages", .ref lm), (nm "leads", .ref ll), (nm "size", .int n), (nm "budget", .int b)]))
  generalize upd H a (.ins A.cWalk dx [(nm "messages", .ref lm), (nm "leads", .ref ll), (nm "size", .int n), (nm "budget", .int b)]) = H4 at hA4 s4
  refine ⟨Nat.zero_le _, fun lc hlc => ?_⟩
  have nlc : a ≠ lc := ne_of_none hA4 hlc
  have c0 : H0 lc = none := s4.free hlc
  refine ⟨_, rfl, a, _, dx, _, rfl, (upd_ne nlc).trans hA4, T.clWalk, T.nWalk_chosen, Nat.le_of_ble_eq_true rfl, ?_⟩
  refine ⟨_, rfl, a, _, dx, _, rfl, upd_same, T.clWalk, T.nWalk_looked, Nat.le_of_ble_eq_true rfl, ?_⟩
  rw [upd_upd]
  have hA6 : (upd (upd H4 lc (.lst [])) a (.ins A.cWalk dx [(nm "messages", .ref lm), (nm "leads", .ref ll), (nm "size", .int n), (nm "budget", .int b), (nm "chosen", .ref lc), (nm "looked", .int 0)])) a = some (.ins A.cWalk dx [(nm "messages", .ref lm), (nm "leads", .ref ll), (nm "size", .int n), (nm "budget", .int b), (nm "chosen", .ref lc), (nm "looked", .int 0)]) := upd_same
  have hC6 : (upd (upd H4 lc (.lst [])) a (.ins A.cWalk dx [(nm "messages", .ref lm), (nm "leads", .ref ll), (nm "size", .int n), (nm "budget", .int b), (nm "chosen", .ref lc), (nm "looked", .int 0)])) lc = some (.lst []) := by rw [upd_ne nlc.symm, upd_same]
  have s6 : Same H0 (upd (upd H4 lc (.lst [])) a (.ins A.cWalk dx [(nm "messages", .ref lm), (nm "leads", .ref ll), (nm "size", .int n), (nm "budget", .int b), (nm "chosen", .ref lc), (nm "looked", .int 0)])) := (s4.new c0).new a0
  show tSeq _ _ _ _ (upd (upd H4 lc (.lst [])) a (.ins A.cWalk dx [(nm "messages", .ref lm), (nm "leads", .ref ll), (nm "size", .int n), (nm "budget", .int b), (nm "chosen", .ref lc), (nm "looked", .int 0)]))
  generalize upd (upd H4 lc (.lst [])) a (.ins A.cWalk dx [(nm "messages", .ref lm), (nm "leads", .ref ll), (nm "size", .int n), (nm "budget", .int b), (nm "chosen", .ref lc), (nm "looked", .int 0)]) = H6 at hA6 hC6 s6
  refine ⟨(by show 1 ≤ sizeLine; decide), fun l0 hl0 => ?_⟩
  refine ⟨_, rfl, l0, (n : Nat), [.int 0], rfl, rfl, upd_same, by omega, by omega, Nat.le_of_lt (line_of (by show 1 * _ ≤ _; omega)), fun lr hlr => ?_⟩
  rw [Int.toNat_natCast, natV_zeros]
  have z0 : H6 lr = none := (Same.put hl0).free hlr
  have nal : a ≠ lr := ne_of_none hA6 z0
  have ncl : lc ≠ lr := ne_of_none hC6 z0
  have na0 : a ≠ l0 := ne_of_none hA6 hl0
  have nc0 : lc ≠ l0 := ne_of_none hC6 hl0
  refine ⟨_, rfl, a, _, dx, _, rfl, (upd_ne nal).trans ((upd_ne na0).trans hA6), T.clWalk, T.nWalk_rooms, Nat.le_of_ble_eq_true rfl, ?_⟩
  refine ⟨_, rfl, a, _, dx, _, rfl, upd_same, T.clWalk, T.nWalk_tables, Nat.le_of_ble_eq_true rfl, ?_⟩
  refine ⟨_, rfl, a, _, dx, _, rfl, upd_same, T.clWalk, T.nWalk_ended, Nat.le_of_ble_eq_true rfl, ?_⟩
  rw [upd_upd, upd_upd]
  have r0 : H0 lr = none := s6.free z0
  have q : WalkP A lm ll H0 (upd (upd (upd H6 l0 (.lst [.int 0])) lr (.lst (natV (List.replicate n 0)))) a (.ins A.cWalk dx (walkF lm ll lc lr ⟨n, b, [], 0, List.replicate n 0, 0, false⟩))) a dx lc lr ⟨n, b, [], 0, List.replicate n 0, 0, false⟩ :=
    ⟨upd_same, by rw [upd_ne nlc.symm, upd_ne ncl, upd_ne nc0]; exact hC6, by rw [upd_ne nal.symm, upd_same], ncl, a0, c0, r0, ((s6.new (s6.free hl0)).new r0).new a0⟩
  have pre : WPre s ⟨n, b, [], 0, List.replicate n 0, 0, false⟩ := ⟨hn, Nat.zero_le _, fun i x e => by simp at e, fun i x e => by simp at e, List.length_replicate .., fun j R _ h => absurd h (Nat.not_lt_zero _)⟩
  refine ⟨_, rfl, a, dx, _, rfl, q.ob, rfl, s, lm, ll, H0, a, _, rfl, st, ⟨dx, lc, lr, q⟩, pre, fun H' R w' ok' => ?_⟩
  by_cases hz : 0 = n
  · have e : enterW s ⟨n, b, [], 0, List.replicate n 0, 0, false⟩ R = ⟨n, b, [], 0, List.replicate n 0, 0, false⟩ := by unfold enterW; exact if_pos hz
    rw [e] at w' ok'
    exact k H' _ w' ok' rfl rfl rfl (fun z => absurd z (by omega)) rfl rfl
  · have e : enterW s ⟨n, b, [], 0, List.replicate n 0, 0, false⟩ R = ⟨n, b, [], (gm s.msgs 0).early, (List.replicate n 0).set 0 R, 0, false⟩ := by unfold enterW; exact if_neg hz
    rw [e] at w' ok'
    exact k H' _ w' ok' rfl rfl rfl (fun _ => rfl) rfl rfl
theorem ok_search_table {f : Addr} {fd : FuncData} (F : Fun K "search_table" "search_table" s_search_table f fd) (T : Txt K mg A) (c_Walk : MkX P w K mg base 3 "Walk" A.cWalk ["self", "messages", "leads", "size", "budget"] (sp_Walk_init K A)) (c_take_step : MtX P w K mg base 3 A.cWalk "take_step" ["self"] (sp_Walk_take_step K A)) (c_is_full : MtX P w K mg base 1 A.cWalk "is_full" ["self"] (sp_Walk_is_full K A)) : FnOk P w K mg base CX0 5 f fd ["messages", "leads", "size", "budget"] (sp_search_table K A) := by
  obtain ⟨f_Walk, fd_Walk, c_Walk⟩ := c_Walk
  obtain ⟨f_take_step, fd_take_step, c_take_step⟩ := c_take_step
  obtain ⟨f_is_full, fd_is_full, c_is_full⟩ := c_is_full
  have nd := sc_search_table.nd
  refine F.ok sc_search_table (fun vs H Q E h => ?_) (fun cdv Ar outer s H vs Q E hr h => ?_)
  · obtain ⟨s, lm, ll, n, b, rfl, st, hn, k⟩ := h; rfl
  obtain ⟨s, lm, ll, n, b, rfl, st, hn, k⟩ := h
  refine ⟨_, (pss_cons (ps_set (i := 4) nd rfl (Or.inl rfl) (pe_make c_Walk.mkC c_Walk.ok (hr.mono (by decide)) rfl c_Walk.gm c_Walk.b .nil pass0 (pa_cons (pv 0) (pa_cons (pv 1) (pa_cons (pv 2) (pa_cons (pv 3) pa_nil))))))
 (pss_cons (ps_while PassesOwn.never (PW.pt (pw_and (pt_not (pt_val (pe_meth0 (pv 4) T.clWalk c_is_full.me c_is_full.ok (hr.mono (by decide)) c_is_full.b .nil pass0))) (pw_and (pt_not (pt_val (pe_fld (pv 4) rfl))) (pw_and1 (pt_cmpR op_gt (pe_fld (pv 4) rfl) pe_int (nomark _))))))
 (pss_one (ps_expr (pe_meth0 (pv 4) T.clWalk c_take_step.me c_take_step.ok (hr.mono (by decide)) c_take_step.b .nil pass0))))
 (pss_one (ps_ret (pv 4))))), ?_⟩
  refine ⟨_, rfl, _, rfl, _, rfl, _, rfl, ?_⟩
  intro x dx hx hdx ndx
  have sm : Same H (upd (upd H dx (.own x)) x (.ins A.cWalk dx [])) := (Same.put hdx).new hx
  refine ⟨s, lm, ll, H, x, dx, n, b, rfl, st, upd_same, hx, sm, hn, fun H1 W1 w1 ok1 z1 z2 z3 z4 z5 z6 => ⟨rfl, ?_⟩⟩
  have r1 : resS s W1 = Vbavab.searched s n b := by
    unfold resS Vbavab.searched
    rw [z6, if_neg Bool.false_ne_true, z1, z2, z3]
    by_cases h0 : n = 0
    · subst h0
      rw [search_full (Nat.zero_le _), search_full (Nat.zero_le _)]; rfl
    · rw [z4 (by omega)]; rfl
  refine ⟨fun m σ H' => ∃ W, σ = [some (.ref lm), some (.ref ll), some (.int n), some (.int b), some (.ref x)] ∧ WalkAt A lm ll H H' x W ∧ WOk s W ∧ W.size = n ∧ W.budget = m ∧ resS s W = Vbavab.searched s n b ∧ (W.ended = true → W.chosen.length < n), ⟨b, W1, rfl, w1, ok1, z1, z2, r1, fun z => by rw [z6] at z; cases z⟩, ?_⟩
  rintro m σ H2 ⟨W, rfl, ⟨dx2, lc, lr, h⟩, ok, e1, e2, e3, e4⟩
  have hle := ok.le
  have h1 := h.ob
  refine ⟨_, rfl, x, dx2, _, rfl, h1, rfl, lm, ll, H, x, W, rfl, ⟨dx2, lc, lr, h⟩, _, rfl, ?_⟩
  by_cases hf : W.chosen.length = W.size
  · rw [decide_eq_true hf]
    exact ⟨_, rfl, k H2 x W ⟨dx2, lc, lr, h⟩ e1 (by omega) e3 e4 (.inl (by omega)) ok.win⟩
  rw [decide_eq_false hf]
  refine ⟨_, rfl, _, _, _, _, _, rfl, h1, T.clWalk, T.nWalk_ended, rfl, _, rfl, ?_⟩
  cases hend : W.ended with
  | true => exact ⟨_, rfl, k H2 x W ⟨dx2, lc, lr, h⟩ e1 (by omega) e3 e4 (.inr (.inl hend)) ok.win⟩
  | false =>
    refine ⟨_, rfl, _, _, _, _, _, rfl, h1, T.clWalk, T.nWalk_budget, rfl, _, _, rfl, rfl, _, rfl, ?_⟩
    refine ite2 (fun hb => ?_) (fun hb => ?_)
    · have hb : (0 : Int) < (W.budget : Int) := of_decide_eq_true hb
      refine ⟨_, fun _ _ q => q, _, rfl, x, dx2, _, rfl, h1, rfl, s, lm, ll, H, x, W, rfl, st, ⟨dx2, lc, lr, h⟩, ok, by omega, hend, fun H3 r w3 ok3 => ?_⟩
      have sz := step_size s W
      have sb := step_budget s W
      refine ⟨m - 1, by omega, { stepW s W with rooms := r }, rfl, w3, ok3, by show (stepW s W).size = n; omega, by show (stepW s W).budget = _; omega, ?_, fun z => ?_⟩
      · show resS s (stepW s W) = _
        rw [search_step hend (by omega) (by omega)]
        exact e3
      · have q := step_ended hend (show (stepW s W).ended = true from z)
        show (stepW s W).chosen.length < n
        rw [q]
        show 0 < n
        omega
    · have hb : ¬ (0 : Int) < (W.budget : Int) := fun z => hb (decide_eq_true z)
      exact ⟨_, rfl, k H2 x W ⟨dx2, lc, lr, h⟩ e1 (by omega) e3 e4 (.inr (.inr (by omega))) ok.win⟩
theorem ok_count_tables {f : Addr} {fd : FuncData} (F : Fun K "count_tables" "count_tables" s_count_tables f fd) (T : Txt K mg A) (c_Walk : MkX P w K mg base 3 "Walk" A.cWalk ["self", "messages", "leads", "size", "budget"] (sp_Walk_init K A)) (c_take_step : MtX P w K mg base 3 A.cWalk "take_step" ["self"] (sp_Walk_take_step K A)) : FnOk P w K mg base CX0 5 f fd ["messages", "leads", "size", "budget"] (sp_count_tables K A) := by
  obtain ⟨f_Walk, fd_Walk, c_Walk⟩ := c_Walk
  obtain ⟨f_take_step, fd_take_step, c_take_step⟩ := c_take_step
  have nd := sc_count_tables.nd
  refine F.ok sc_count_tables (fun vs H Q E h => ?_) (fun cdv Ar outer s H vs Q E hr h => ?_)
  · obtain ⟨s, lm, ll, n, b, rfl, st, hn, k⟩ := h; rfl
  obtain ⟨s, lm, ll, n, b, rfl, st, hn, k⟩ := h
  refine ⟨_, (pss_cons (ps_set (i := 4) nd rfl (Or.inl rfl) (pe_make c_Walk.mkC c_Walk.ok (hr.mono (by decide)) rfl c_Walk.gm c_Walk.b .nil pass0 (pa_cons (pv 0) (pa_cons (pv 1) (pa_cons (pv 2) (pa_cons (pv 3) pa_nil))))))
 (pss_cons (ps_while PassesOwn.never (PW.pt (pw_and (pt_not (pt_val (pe_fld (pv 4) rfl))) (pw_and1 (pt_cmpR op_gt (pe_fld (pv 4) rfl) pe_int (nomark _)))))
 (pss_one (ps_expr (pe_meth0 (pv 4) T.clWalk c_take_step.me c_take_step.ok (hr.mono (by decide)) c_take_step.b .nil pass0))))
 (pss_one (ps_ret (pv 4))))), ?_⟩
  refine ⟨_, rfl, _, rfl, _, rfl, _, rfl, ?_⟩
  intro x dx hx hdx ndx
  have sm : Same H (upd (upd H dx (.own x)) x (.ins A.cWalk dx [])) := (Same.put hdx).new hx
  refine ⟨s, lm, ll, H, x, dx, n, b, rfl, st, upd_same, hx, sm, hn, fun H1 W1 w1 ok1 z1 z2 z3 z4 z5 z6 => ⟨rfl, ?_⟩⟩
  have r1 : resC s W1 = Vbavab.countAll s n b [] (gm s.msgs 0).early 0 := by
    unfold resC
    rw [z6, if_neg Bool.false_ne_true, z1, z2, z3, z5]
    by_cases h0 : n = 0
    · subst h0
      exact countAll_full (Nat.zero_le _) _ _ _ _
    · rw [z4 (by omega)]; rfl
  refine ⟨fun m σ H' => ∃ W, σ = [some (.ref lm), some (.ref ll), some (.int n), some (.int b), some (.ref x)] ∧ WalkAt A lm ll H H' x W ∧ WOk s W ∧ W.size = n ∧ W.budget = m ∧ resC s W = Vbavab.countAll s n b [] (gm s.msgs 0).early 0 ∧ (W.ended = false → n = 0 → W.tables = 0), ⟨b, W1, rfl, w1, ok1, z1, z2, r1, fun _ _ => z5⟩, ?_⟩
  rintro m σ H2 ⟨W, rfl, ⟨dx2, lc, lr, h⟩, ok, e1, e2, e3, e4⟩
  have hle := ok.le
  have h1 := h.ob
  refine ⟨_, rfl, _, _, _, _, _, rfl, h1, T.clWalk, T.nWalk_ended, rfl, _, rfl, ?_⟩
  cases hend : W.ended with
  | true => exact ⟨_, rfl, k H2 x W ⟨dx2, lc, lr, h⟩ e3 (.inl hend)⟩
  | false =>
    refine ⟨_, rfl, _, _, _, _, _, rfl, h1, T.clWalk, T.nWalk_budget, rfl, _, _, rfl, rfl, _, rfl, ?_⟩
    refine ite2 (fun hb => ?_) (fun hb => ?_)
    · have hb : (0 : Int) < (W.budget : Int) := of_decide_eq_true hb
      refine ⟨_, fun _ _ q => q, _, rfl, x, dx2, _, rfl, h1, rfl, s, lm, ll, H, x, W, rfl, st, ⟨dx2, lc, lr, h⟩, ok, by omega, hend, fun H3 r w3 ok3 => ?_⟩
      have sz := step_size s W
      have sb := step_budget s W
      refine ⟨m - 1, by omega, { stepW s W with rooms := r }, rfl, w3, ok3, by show (stepW s W).size = n; omega, by show (stepW s W).budget = _; omega, ?_, fun z z0 => ?_⟩
      · show resC s (stepW s W) = _
        rw [count_step hend hle (by omega) (fun q => e4 hend (by omega))]
        exact e3
      · have q := step_tables0 (s := s) hle (by omega)
        have z : (stepW s W).ended = false := z
        rw [q] at z; cases z
    · have hb : ¬ (0 : Int) < (W.budget : Int) := fun z => hb (decide_eq_true z)
      exact ⟨_, rfl, k H2 x W ⟨dx2, lc, lr, h⟩ e3 (.inr (by omega))⟩
end
def inAll (ns : List Int) (rs : List (Int × Int)) : Bool := (ns.zip rs).all fun p => Vbavab.inR p.1 p.2.1 p.2.2
def sp_Message_init (K : PySem.W.Frag) (A : Adr) : Sp := fun vs H Q _ => ∃ (p dx : Addr) (v1 v2 v3 v4 v5 : V), vs = [.ref p, v1, v2, v3, v4, v5] ∧ H p = some (.ins A.cMessage dx []) ∧
  Q .non (upd H p (.ins A.cMessage dx [(nm "period", v1), (nm "length", v2), (nm "earliest", v3), (nm "latest", v4), (nm "buses", v5)]))
def sp_Demand_init (K : PySem.W.Frag) (A : Adr) : Sp := fun vs H Q _ => ∃ (p dx : Addr) (v1 v2 v3 v4 : V), vs = [.ref p, v1, v2, v3, v4] ∧ H p = some (.ins A.cDemand dx []) ∧
  Q .non (upd H p (.ins A.cDemand dx [(nm "kind", v1), (nm "first", v2), (nm "second", v3), (nm "gap", v4)]))
def sp_in_ranges (K : PySem.W.Frag) (A : Adr) : Sp := fun vs H Q _ => ∃ (ln t : Addr) (ns : List Int) (rs : List (Int × Int)), vs = [.ref ln, .ref t] ∧ H ln = some (.lst (ns.map V.int)) ∧ RangesAt K t rs ∧ ns.length = rs.length ∧ ∀ H', Same H H' → Q (.bl (inAll ns rs)) H'
def deskF (lm ld lt : Addr) (kv : V) : List (Str × V) := [(nm "messages", .ref lm), (nm "demands", .ref ld), (nm "table", .ref lt), (nm "kept", kv)]
def KeptAt (H : Hp) (kv : V) (s : Plan) : Prop := (kv = .non ∧ s.kept = [] ∧ s.msgs ≠ []) ∨ ∃ lk, kv = .ref lk ∧ H lk = some (.lst ((tabI s.kept).map V.int)) ∧ s.kept.length = s.msgs.length
def TabIn (s : Plan) : Prop := ∀ (i x : Nat), Vbavab.beginOf s.table i = some x → x ≤ (gm s.msgs i).late
structure DeskP (A : Adr) (H : Hp) (a dx lm ld lt : Addr) (kv : V) (s : Plan) : Prop where
  ob : H a = some (.ins A.cDesk dx (deskF lm ld lt kv))
  ms : MsgsAt A H lm s.msgs
  ds : DemsAt A H ld s.demands
  tb : H lt = some (.lst ((tabI s.table).map V.int))
  kp : KeptAt H kv s
  ok : OkP s
  tl : s.table.length = s.msgs.length
  md : lm ≠ ld
  mt : lm ≠ lt
  dt : ld ≠ lt
  km : kv ≠ .ref lm
  kd : kv ≠ .ref ld
  kt : kv ≠ .ref lt
  tw : TabIn s
def kvA : V → List Addr
  | .ref x => [x]
  | _ => []
def DeskAt (A : Adr) (H : Hp) (a : Addr) (own : List Addr) (s : Plan) : Prop := ∃ dx lm ld lt kv, own = a :: lm :: ld :: lt :: kvA kv ∧ DeskP A H a dx lm ld lt kv s
def Fr (H H' : Hp) (own : List Addr) : Prop := ∀ b u, H b = some u → b ∉ own → H' b = some u
theorem Fr.of {H H' : Hp} {own : List Addr} (s : Same H H') : Fr H H' own := fun b u e _ => s b u e
theorem Fr.trans {H H1 H2 : Hp} {own : List Addr} (f : Fr H H1 own) (g : Fr H1 H2 own) : Fr H H2 own := fun b u e n => g b u (f b u e n) n
def SubO (H : Hp) (own own' : List Addr) : Prop := ∀ x ∈ own', x ∈ own ∨ H x = none
theorem SubO.refl (H : Hp) (own : List Addr) : SubO H own own := fun _ h => .inl h
theorem KeptAt.keep {H H' : Hp} {kv : V} {s : Plan} (h : KeptAt H kv s) (sm : Same H H') : KeptAt H' kv s := by
  rcases h with h | ⟨lk, e, h1, h2⟩
  · exact .inl h
  · exact .inr ⟨lk, e, sm _ _ h1, h2⟩
theorem DeskP.keep {A : Adr} {H H' : Hp} {a dx lm ld lt : Addr} {kv : V} {s : Plan} (h : DeskP A H a dx lm ld lt kv s) (sm : Same H H') : DeskP A H' a dx lm ld lt kv s :=
  ⟨sm _ _ h.ob, h.ms.keep sm, h.ds.keep sm, sm _ _ h.tb, h.kp.keep sm, h.ok, h.tl, h.md, h.mt, h.dt, h.km, h.kd, h.kt, h.tw⟩
def sp_has_message (K : PySem.W.Frag) (A : Adr) : Sp := fun vs H Q _ => ∃ (a dx lm ld lt : Addr) (kv : V) (s : Plan) (m : Int), vs = [.ref a, .int m] ∧ DeskP A H a dx lm ld lt kv s ∧ Q (.bl (Vbavab.isMsg s m)) H
def callF (place : Nat) (s : Plan) (ns : List Int) : Plan × List Int := Vbavab.stepRaw s [(place : Int) :: ns]
def spH (A : Adr) (place k : Nat) : Sp := fun vs H Q _ => ∃ (a ln : Addr) (own : List Addr) (s : Plan) (ns : List Int), vs = [.ref a, .ref ln] ∧ DeskAt A H a own s ∧ H ln = some (.lst (ns.map V.int)) ∧ ns.length = k ∧ ln ∉ own ∧
  ∀ (H' : Hp) (p : Addr) (own' : List Addr), DeskAt A H' a own' (callF place s ns).1 → H' p = some (.lst ((callF place s ns).2.map V.int)) → Fr H H' own → SubO H own own' → H p = none → (callF place s ns).2.length ≤ 1000 → Q (.ref p) H'
section
variable {P : Program} {w : World} {K : PySem.W.Frag} {mg : Str → Option Value} {base : Heap} {A : Adr}
theorem ok_Message_init {f : Addr} {fd : FuncData} (F : Fun K "__init__" "Message.__init__" s_Message_init f fd) (T : Txt K mg A) : FnOk P w K mg base CX0 1 f fd ["self", "period", "length", "earliest", "latest", "buses"] (sp_Message_init K A) := by
  have nd := sc_Message_init.nd
  refine F.ok sc_Message_init (fun vs H Q E h => ?_) (fun cdv Ar outer s H vs Q E hr h => ?_)
  · obtain ⟨p, dx, v1, v2, v3, v4, v5, rfl, hp, k⟩ := h; rfl
  obtain ⟨p, dx, v1, v2, v3, v4, v5, rfl, hp, k⟩ := h
  refine ⟨_, (pss_cons (ps_fld (pv 0) (pv 1) rfl)
 (pss_cons (ps_fld (pv 0) (pv 2) rfl)
 (pss_cons (ps_fld (pv 0) (pv 3) rfl)
 (pss_cons (ps_fld (pv 0) (pv 4) rfl)
 (pss_one (ps_fld (pv 0) (pv 5) rfl)))))), ?_⟩
  refine ⟨_, rfl, _, rfl, p, _, dx, _, rfl, hp, T.clMessage, T.nMessage_period, Nat.le_of_ble_eq_true rfl, ?_⟩
  refine ⟨_, rfl, _, rfl, p, _, dx, _, rfl, upd_same, T.clMessage, T.nMessage_length, Nat.le_of_ble_eq_true rfl, ?_⟩
  refine ⟨_, rfl, _, rfl, p, _, dx, _, rfl, upd_same, T.clMessage, T.nMessage_earliest, Nat.le_of_ble_eq_true rfl, ?_⟩
  refine ⟨_, rfl, _, rfl, p, _, dx, _, rfl, upd_same, T.clMessage, T.nMessage_latest, Nat.le_of_ble_eq_true rfl, ?_⟩
  refine ⟨_, rfl, _, rfl, p, _, dx, _, rfl, upd_same, T.clMessage, T.nMessage_buses, Nat.le_of_ble_eq_true rfl, ?_⟩
  rw [upd_upd, upd_upd, upd_upd, upd_upd]
  exact k
theorem ok_Demand_init {f : Addr} {fd : FuncData} (F : Fun K "__init__" "Demand.__init__" s_Demand_init f fd) (T : Txt K mg A) : FnOk P w K mg base CX0 1 f fd ["self", "kind", "first", "second", "gap"] (sp_Demand_init K A) := by
  have nd := sc_Demand_init.nd
  refine F.ok sc_Demand_init (fun vs H Q E h => ?_) (fun cdv Ar outer s H vs Q E hr h => ?_)
  · obtain ⟨p, dx, v1, v2, v3, v4, rfl, hp, k⟩ := h; rfl
  obtain ⟨p, dx, v1, v2, v3, v4, rfl, hp, k⟩ := h
  refine ⟨_, (pss_cons (ps_fld (pv 0) (pv 1) rfl)
 (pss_cons (ps_fld (pv 0) (pv 2) rfl)
 (pss_cons (ps_fld (pv 0) (pv 3) rfl)
 (pss_one (ps_fld (pv 0) (pv 4) rfl))))), ?_⟩
  refine ⟨_, rfl, _, rfl, p, _, dx, _, rfl, hp, T.clDemand, T.nDemand_kind, Nat.le_of_ble_eq_true rfl, ?_⟩
  refine ⟨_, rfl, _, rfl, p, _, dx, _, rfl, upd_same, T.clDemand, T.nDemand_first, Nat.le_of_ble_eq_true rfl, ?_⟩
  refine ⟨_, rfl, _, rfl, p, _, dx, _, rfl, upd_same, T.clDemand, T.nDemand_second, Nat.le_of_ble_eq_true rfl, ?_⟩
  refine ⟨_, rfl, _, rfl, p, _, dx, _, rfl, upd_same, T.clDemand, T.nDemand_gap, Nat.le_of_ble_eq_true rfl, ?_⟩
  rw [upd_upd, upd_upd, upd_upd]
  exact k
theorem ok_in_ranges {f : Addr} {fd : FuncData} (F : Fun K "in_ranges" "in_ranges" s_in_ranges f fd) (T : Txt K mg A) : FnOk P w K mg base CX0 1 f fd ["numbers", "ranges"] (sp_in_ranges K A) := by
  have nd := sc_in_ranges.nd
  refine F.ok sc_in_ranges (fun vs H Q E h => ?_) (fun cdv Ar outer s H vs Q E hr h => ?_)
  · obtain ⟨ln, t, ns, rs, rfl, hn, ⟨as, ht, hasl, hat⟩, hlen, k⟩ := h; rfl
  obtain ⟨ln, t, ns, rs, rfl, hn, ⟨as, ht, hasl, hat⟩, hlen, k⟩ := h
  refine ⟨_, (pss_cons (ps_for PassesOwn.never rfl (pi_zipT rfl T.zip (pa_cons (pv 0) (pa_cons (pv 1) pa_nil))) (pg_tup rfl (pgs_cons (pg_name (i := 2) nd rfl (Or.inl rfl)) (pgs_cons (pg_name (i := 3) nd rfl (Or.inl rfl)) pgs_nil)))
 (pss_one (ps_if (PW.pt (pw_or (pt_cmpR op_lt (pv 2) (pe_ix ix_tup (pv 3) pe_int (fun _ _ => rfl)) (nomark _)) (pw_or1 (pt_cmpR op_gt (pv 2) (pe_ix ix_tup (pv 3) pe_int (fun _ _ => rfl)) (nomark _)))))
 (pss_one (ps_ret pe_bl))
 pss_nil)))
 (pss_one (ps_ret pe_bl))), ?_⟩
  refine ⟨_, rfl, _, rfl, ln, t, _, _, rfl, SqL.of hn, ht.sq, ?_⟩
  refine for_zipT (xs := ns.map V.int) (ys := as.map V.ref) (by simp; omega) (fun i σ H' => ∃ v2 v3 : Option V, σ = [some (.ref ln), some (.ref t), v2, v3] ∧ Same H H' ∧ inAll (ns.take i) (rs.take i) = true) ⟨none, none, rfl, Same.refl _, rfl⟩ (fun i σ H' _ ⟨_, _, _, s1, _⟩ => ⟨SqL.of (s1 _ _ hn), ht.sq⟩) ?_ ?_
  · rintro i x y σ H1 u hx hy hu ⟨v2, v3, rfl, s1, al⟩
    rw [List.getElem?_map] at hx hy
    have hi : i < ns.length := by
      by_cases q : i < ns.length
      · exact q
      · rw [List.getElem?_eq_none (by omega)] at hx; cases hx
    have en : ns[i]? = some ns[i] := List.getElem?_eq_getElem hi
    have ea : as[i]? = some (as[i]'(by omega)) := List.getElem?_eq_getElem (by omega)
    have er : rs[i]? = some (rs[i]'(by omega)) := List.getElem?_eq_getElem (by omega)
    have kt := hat i _ _ ea er
    rw [en] at hx
    rw [ea] at hy
    have ex : x = .int ns[i] := (Option.some.inj hx).symm
    have ey : y = .ref (as[i]'(by omega)) := (Option.some.inj hy).symm
    subst ex ey
    have tk : inAll (ns.take (i + 1)) (rs.take (i + 1)) = Vbavab.inR ns[i] (rs[i]'(by omega)).1 (rs[i]'(by omega)).2 := by
      unfold inAll
      rw [List.take_add_one, List.take_add_one, en, er, List.zip_append (by simp; omega), List.all_append]
      unfold inAll at al
      rw [al, Bool.true_and]
      show (_ && true) = _
      rw [Bool.and_true]
    have no : Vbavab.inR ns[i] (rs[i]'(by omega)).1 (rs[i]'(by omega)).2 = false → inAll ns rs = false := fun q => by
      unfold inAll
      rw [List.all_eq_false]
      refine ⟨(ns[i], rs[i]'(by omega)), ?_, by rw [q]; exact Bool.false_ne_true⟩
      refine List.mem_of_getElem? (i := i) ?_
      rw [List.getElem?_zip_eq_some]
      exact ⟨en, er⟩
    generalize rs[i]'(by omega) = r at *
    generalize ns[i] = z at *
    generalize as[i]'(by omega) = c at *
    refine ⟨u, _, rfl, SqT.of upd_same, rfl, _, _, rfl, _, _, rfl, rfl, ?_⟩
    have s2 := s1.new (o := .tup [.int z, .ref c]) (s1.free hu)
    generalize upd H1 u (.tup [.int z, .ref c]) = H2 at s2
    refine ⟨_, rfl, _, rfl, c, _, 0, .int r.1, rfl, rfl, kt.sq, rfl, _, _, rfl, rfl, _, rfl, ?_⟩
    unfold Vbavab.inR at tk no
    refine ite2 (fun h => ?_) (fun h => ?_)
    · have h := of_decide_eq_true h
      rw [decide_eq_false (show ¬ r.1 ≤ z by omega), Bool.false_and] at no
      have q := k H2 s2
      rw [no rfl] at q
      exact iteT q
    have h : ¬ z < r.1 := fun q => h (decide_eq_true q)
    rw [decide_eq_true (show r.1 ≤ z by omega), Bool.true_and] at no tk
    refine ⟨_, rfl, _, rfl, c, _, 1, .int r.2, rfl, rfl, kt.sq, rfl, _, _, rfl, rfl, _, rfl, ?_⟩
    refine ite2 (fun h' => ?_) (fun h' => ?_)
    · have h' := of_decide_eq_true h'
      have q := k H2 s2
      rw [no (decide_eq_false (by omega))] at q
      exact q
    · have h' : ¬ r.2 < z := fun q => h' (decide_eq_true q)
      exact ⟨_, _, rfl, s2, by rw [tk]; exact decide_eq_true (by omega)⟩
  · rintro σ H1 ⟨v2, v3, rfl, s1, al⟩
    rw [List.length_map, List.take_length, hlen, List.take_length] at al
    have q := k H1 s1
    rw [al] at q
    exact q
theorem ok_has_message {f : Addr} {fd : FuncData} (F : Fun K "has_message" "has_message" s_has_message f fd) (T : Txt K mg A) : FnOk P w K mg base CX0 1 f fd ["desk", "number"] (sp_has_message K A) := by
  have nd := sc_has_message.nd
  refine F.ok sc_has_message (fun vs H Q E h => ?_) (fun cdv Ar outer s H vs Q E hr h => ?_)
  · obtain ⟨a, dx, lm, ld, lt, kv, s, m, rfl, h, k⟩ := h; rfl
  obtain ⟨a, dx, lm, ld, lt, kv, s, m, rfl, h, k⟩ := h
  refine ⟨_, (pss_one (ps_ret (pe_and (pe_cmpR op_le pe_int (pv 1) (nomark _)) (pe_one (pe_cmpR op_lt (pv 1) (pe_callB call_len_seq (by rfl) T.len PySem.boot_len (pa_cons (pe_fld (pv 0) rfl) pa_nil)) (nomark _)))))), ?_⟩
  have h1 := h.ob
  obtain ⟨ms, hms, hmn, hat⟩ := h.ms.adr
  refine ⟨_, rfl, _, _, rfl, rfl, _, rfl, ?_⟩
  have e : Vbavab.isMsg s m = (decide (0 ≤ m) && decide (m < ((ms.map V.ref).length : Int))) := by
    unfold Vbavab.isMsg Vbavab.inR
    rw [List.length_map, hmn]
    congr 1
    exact decide_eq_decide.mpr ⟨fun z => by have := z; simp at *; omega, fun z => by simp at *; omega⟩
  rw [e] at k
  refine ite2 (fun q => ?_) (fun q => ?_)
  · rw [show decide _ = true from q, Bool.true_and] at k
    exact ⟨_, rfl, _, rfl, _, _, _, _, _, rfl, h1, T.clDesk, T.nDesk_messages, rfl, _, _, rfl, .inl (SqL.of hms), _, _, rfl, rfl, k⟩
  · rw [Bool.eq_false_iff.mpr q, Bool.false_and] at k
    exact k
end
theorem MsgsAt.off {A : Adr} {H : Hp} {l p : Addr} {ms : List Msg} {o u : HO} (h : MsgsAt A H l ms) (hp : H p = some o) (no : ∀ dx m, o ≠ .ins A.cMessage dx (msgF m)) (ne : p ≠ l) : MsgsAt A (upd H p u) l ms := by
  obtain ⟨as, h1, h2, h3⟩ := h.ex
  refine ⟨as, by rw [upd_ne ne.symm]; exact h1, h2, fun i a m e1 e2 => ?_⟩
  obtain ⟨dx, e⟩ := h3 i a m e1 e2
  exact ⟨dx, by rw [upd_ne (ne_of e hp (fun z => no dx m z.symm))]; exact e⟩
theorem DemsAt.off {A : Adr} {H : Hp} {l p : Addr} {ds : List Demand} {o u : HO} (h : DemsAt A H l ds) (hp : H p = some o) (no : ∀ dx d, o ≠ .ins A.cDemand dx (demF d)) (ne : p ≠ l) : DemsAt A (upd H p u) l ds := by
  obtain ⟨as, h1, h2, h3⟩ := h.ex
  refine ⟨as, by rw [upd_ne ne.symm]; exact h1, h2, fun i a m e1 e2 => ?_⟩
  obtain ⟨dx, e⟩ := h3 i a m e1 e2
  exact ⟨dx, by rw [upd_ne (ne_of e hp (fun z => no dx m z.symm))]; exact e⟩
theorem noM_lst {A : Adr} {xs : List V} : ∀ dx m, HO.lst xs ≠ .ins A.cMessage dx (msgF m) := fun _ _ z => by cases z
theorem noD_lst {A : Adr} {xs : List V} : ∀ dx m, HO.lst xs ≠ .ins A.cDemand dx (demF m) := fun _ _ z => by cases z
theorem noM_desk {A : Adr} {d lm ld lt : Addr} {kv : V} : ∀ dx m, HO.ins A.cDesk d (deskF lm ld lt kv) ≠ .ins A.cMessage dx (msgF m) := fun _ _ z => by
  injection z with _ _ z
  exact absurd (congrArg List.length z) (by show ¬ (4 = 5); decide)
theorem noD_desk {A : Adr} {d lm ld lt : Addr} {kv : V} : ∀ dx m, HO.ins A.cDesk d (deskF lm ld lt kv) ≠ .ins A.cDemand dx (demF m) := fun _ _ z => by
  injection z with _ _ z
  have q : nm "messages" = nm "kind" := Option.some.inj (congrArg (fun l => l.head?.map (·.1)) z)
  exact absurd q (by decide)
theorem MsgsAt.push {A : Adr} {H : Hp} {l a : Addr} {ms : List Msg} {m : Msg} {xs : List V} (h : MsgsAt A H l ms) (ha : MsgAt A H a m) (hx : H l = some (.lst xs)) : MsgsAt A (upd H l (.lst (xs ++ [.ref a]))) l (ms ++ [m]) := by
  obtain ⟨as, h1, h2, h3⟩ := h.ex
  rw [h1] at hx
  have ex : xs = as.map V.ref := by injection hx with e; injection e with e; exact e.symm
  subst ex
  have kp : ∀ {b : Addr} {u : Msg}, MsgAt A H b u → MsgAt A (upd H l (.lst (as.map V.ref ++ [.ref a]))) b u := fun {b u} ⟨dx, e⟩ => ⟨dx, by rw [upd_ne (ne_of e h1 (by intro z; cases z))]; exact e⟩
  refine ⟨as ++ [a], by rw [upd_same, List.map_append]; rfl, by simp [h2], fun i b u e1 e2 => ?_⟩
  by_cases hi : i < as.length
  · rw [List.getElem?_append_left hi] at e1
    rw [List.getElem?_append_left (by omega)] at e2
    exact kp (h3 i b u e1 e2)
  · rw [List.getElem?_append_right (by omega)] at e1 e2
    have hl := (List.getElem?_eq_some_iff.mp e1).1
    have z : i - as.length = 0 := by simp at hl; omega
    rw [z] at e1
    rw [← h2, z] at e2
    have ea : a = b := Option.some.inj e1
    have er : m = u := Option.some.inj e2
    subst ea er
    exact kp ha
theorem Fr.upd {H H1 : Hp} {own : List Addr} {p : Addr} {u : HO} (f : Fr H H1 own) (h : p ∈ own ∨ H p = none) : Fr H (upd H1 p u) own := fun b o e n => by
  have ne : b ≠ p := by
    rcases h with h | h
    · exact fun z => n (z ▸ h)
    · exact ne_of_none e h
  rw [upd_ne ne]
  exact f b o e n
theorem TabIn.set {s : Plan} (h : TabIn s) {n : Nat} (o : Option Nat) (ho : ∀ x, o = some x → x ≤ (gm s.msgs n).late) : TabIn { s with table := s.table.set n o } := fun i x e => by
  have e : Vbavab.beginOf (Vbavab.putAt s.table n o) i = some x := e
  show x ≤ (gm s.msgs i).late
  by_cases q : n = i
  · subst q
    by_cases hn : n < s.table.length
    · rw [beginOf_putAt_self hn] at e
      exact ho x e
    · unfold Vbavab.beginOf Vbavab.putAt at e
      rw [List.getD_eq_getElem?_getD, List.getElem?_eq_none (by rw [List.length_set]; omega)] at e
      cases e
  · rw [beginOf_putAt_ne q] at e
    exact h i x e
theorem TabIn.snoc {s : Plan} (h : TabIn s) (hl : s.table.length = s.msgs.length) (m : Msg) : TabIn { s with msgs := s.msgs ++ [m], table := s.table ++ [none], kept := [] } := fun i x e => by
  have e : Vbavab.beginOf (s.table ++ [none]) i = some x := e
  show x ≤ (gm (s.msgs ++ [m]) i).late
  unfold Vbavab.beginOf at e
  rw [List.getD_eq_getElem?_getD] at e
  by_cases hi : i < s.table.length
  · rw [List.getElem?_append_left hi] at e
    have z := h i x (by unfold Vbavab.beginOf; rw [List.getD_eq_getElem?_getD]; exact e)
    have eg : gm (s.msgs ++ [m]) i = gm s.msgs i := by
      unfold gm
      rw [List.getD_eq_getElem?_getD, List.getElem?_append_left (by omega), List.getD_eq_getElem?_getD]
    rw [eg]
    exact z
  · rw [List.getElem?_append_right (by omega)] at e
    cases q : i - s.table.length with
    | zero => rw [q] at e; cases e
    | succ n => rw [q] at e; cases e
section
variable {A : Adr} {H : Hp} {a dx lm ld lt : Addr} {kv : V} {s : Plan}
theorem KeptAt.off {p : Addr} {o u : HO} (h : KeptAt H kv s) (n : kv ≠ .ref p) : KeptAt (upd H p u) kv s := by
  rcases h with h | ⟨lk, e, h1, h2⟩
  · exact .inl h
  · exact .inr ⟨lk, e, by rw [upd_ne (fun z => n (by rw [e, z]))]; exact h1, h2⟩
theorem DeskP.ta (h : DeskP A H a dx lm ld lt kv s) : lt ≠ a := ne_of h.tb h.ob (by intro z; cases z)
theorem DeskP.ma (h : DeskP A H a dx lm ld lt kv s) : lm ≠ a := let ⟨_, e, _⟩ := h.ms.ex; ne_of e h.ob (by intro z; cases z)
theorem DeskP.da (h : DeskP A H a dx lm ld lt kv s) : ld ≠ a := let ⟨_, e, _⟩ := h.ds.ex; ne_of e h.ob (by intro z; cases z)
theorem DeskP.ka (h : DeskP A H a dx lm ld lt kv s) : kv ≠ .ref a := by
  rcases h.kp with ⟨e, _⟩ | ⟨lk, e, h1, _⟩
  · rw [e]; intro z; cases z
  · intro z
    rw [e] at z
    injection z with z
    rw [z, h.ob] at h1
    injection h1 with h1
    cases h1
theorem DeskP.setTab (h : DeskP A H a dx lm ld lt kv s) (t : List (Option Nat)) (hl : t.length = s.msgs.length) (hw : TabIn { s with table := t }) : DeskP A (upd H lt (.lst ((tabI t).map V.int))) a dx lm ld lt kv { s with table := t } :=
  ⟨by rw [upd_ne h.ta.symm]; exact h.ob, h.ms.off h.tb noM_lst h.mt.symm, h.ds.off h.tb noD_lst h.dt.symm, upd_same, KeptAt.off (o := .lst []) (s := s) h.kp h.kt, ⟨h.ok.m, h.ok.d, h.ok.n8, h.ok.n16⟩, hl, h.md, h.mt, h.dt, h.km, h.kd, h.kt, hw⟩
theorem DeskP.newTab (h : DeskP A H a dx lm ld lt kv s) {l : Addr} (hn : H l = none) (t : List (Option Nat)) (hl : t.length = s.msgs.length) (hw : TabIn { s with table := t }) :
    DeskP A (upd (upd H l (.lst ((tabI t).map V.int))) a (.ins A.cDesk dx (deskF lm ld l kv))) a dx lm ld l kv { s with table := t } := by
  have s1 : Same H (upd H l (.lst ((tabI t).map V.int))) := Same.put hn
  have d1 := h.keep s1
  have na : l ≠ a := (ne_of_none h.ob hn).symm
  have hlt : (upd H l (.lst ((tabI t).map V.int))) l = some (.lst ((tabI t).map V.int)) := upd_same
  obtain ⟨_, em, _⟩ := h.ms.ex
  obtain ⟨_, ed, _⟩ := h.ds.ex
  refine ⟨upd_same, d1.ms.off d1.ob noM_desk h.ma.symm, d1.ds.off d1.ob noD_desk h.da.symm, by rw [upd_ne na]; exact hlt, KeptAt.off (o := .lst []) (s := s) d1.kp h.ka, ⟨h.ok.m, h.ok.d, h.ok.n8, h.ok.n16⟩, hl, h.md, ne_of_none em hn, ne_of_none ed hn, h.km, h.kd, ?_, hw⟩
  rcases h.kp with ⟨e, _⟩ | ⟨lk, e, h1, _⟩
  · rw [e]; intro z; cases z
  · rw [e]; intro z
    injection z with z
    rw [z, hn] at h1
    cases h1
theorem DeskP.newKept (h : DeskP A H a dx lm ld lt kv s) {l : Addr} (hn : H l = none) :
    DeskP A (upd (upd H l (.lst ((tabI s.table).map V.int))) a (.ins A.cDesk dx (deskF lm ld lt (.ref l)))) a dx lm ld lt (.ref l) { s with kept := s.table } := by
  have s1 : Same H (upd H l (.lst ((tabI s.table).map V.int))) := Same.put hn
  have d1 := h.keep s1
  have na : l ≠ a := (ne_of_none h.ob hn).symm
  obtain ⟨_, em, _⟩ := h.ms.ex
  obtain ⟨_, ed, _⟩ := h.ds.ex
  refine ⟨upd_same, d1.ms.off d1.ob noM_desk h.ma.symm, d1.ds.off d1.ob noD_desk h.da.symm, by rw [upd_ne h.ta]; exact d1.tb, .inr ⟨l, rfl, by rw [upd_ne na, upd_same], h.tl⟩, ⟨h.ok.m, h.ok.d, h.ok.n8, h.ok.n16⟩, h.tl, h.md, h.mt, h.dt, ?_, ?_, ?_, h.tw⟩
  · intro z; injection z with z; exact ne_of_none em hn z.symm
  · intro z; injection z with z; exact ne_of_none ed hn z.symm
  · intro z; injection z with z; exact ne_of_none h.tb hn z.symm
theorem DeskP.addDem (h : DeskP A H a dx lm ld lt kv s) {x : Addr} {d : Demand} {xs : List V} (hd : DemAt A H x d) (hx : H ld = some (.lst xs)) (od : OkD s.msgs.length d) (h16 : s.demands.length < 16) :
    DeskP A (upd H ld (.lst (xs ++ [.ref x]))) a dx lm ld lt kv { s with demands := s.demands ++ [d] } := by
  refine ⟨by rw [upd_ne h.da.symm]; exact h.ob, h.ms.off hx noM_lst h.md.symm, h.ds.push hd hx, by rw [upd_ne h.dt.symm]; exact h.tb, KeptAt.off (o := .lst []) (s := s) h.kp h.kd, ⟨h.ok.m, fun d' hd' => ?_, h.ok.n8, ?_⟩, h.tl, h.md, h.mt, h.dt, h.km, h.kd, h.kt, h.tw⟩
  · rcases List.mem_append.mp hd' with q | q
    · exact h.ok.d d' q
    · rw [List.mem_singleton.mp q]; exact od
  · show (s.demands ++ [d]).length ≤ 16
    rw [List.length_append, List.length_singleton]; omega
theorem tabI_snoc (t : List (Option Nat)) : (tabI t).map V.int ++ [.int (-1)] = (tabI (t ++ [none])).map V.int := by
  unfold tabI
  rw [List.map_append, List.map_append]; rfl
theorem DeskP.addMsg (h : DeskP A H a dx lm ld lt kv s) {x : Addr} {m : Msg} {xs : List V} (hm : MsgAt A H x m) (hx : H lm = some (.lst xs)) (om : OkM m) (h8 : s.msgs.length < 8) :
    DeskP A (upd (upd (upd H lm (.lst (xs ++ [.ref x]))) lt (.lst ((tabI s.table).map V.int ++ [.int (-1)]))) a (.ins A.cDesk dx (deskF lm ld lt .non))) a dx lm ld lt .non { s with msgs := s.msgs ++ [m], table := s.table ++ [none], kept := [] } := by
  have m1 := h.ms.push hm hx
  have d1 : DemsAt A (upd H lm (.lst (xs ++ [.ref x]))) ld s.demands := h.ds.off hx noD_lst h.md
  have t1 : (upd H lm (.lst (xs ++ [.ref x]))) lt = some (.lst ((tabI s.table).map V.int)) := by rw [upd_ne h.mt.symm]; exact h.tb
  have a1 : (upd H lm (.lst (xs ++ [.ref x]))) a = some (.ins A.cDesk dx (deskF lm ld lt kv)) := by rw [upd_ne h.ma.symm]; exact h.ob
  generalize upd H lm (.lst (xs ++ [.ref x])) = H1 at m1 d1 t1 a1
  have m2 : MsgsAt A (upd H1 lt (.lst ((tabI s.table).map V.int ++ [.int (-1)]))) lm (s.msgs ++ [m]) := m1.off t1 noM_lst h.mt.symm
  have d2 : DemsAt A (upd H1 lt (.lst ((tabI s.table).map V.int ++ [.int (-1)]))) ld s.demands := d1.off t1 noD_lst h.dt.symm
  have a2 : (upd H1 lt (.lst ((tabI s.table).map V.int ++ [.int (-1)]))) a = some (.ins A.cDesk dx (deskF lm ld lt kv)) := by rw [upd_ne h.ta.symm]; exact a1
  have t2 : (upd H1 lt (.lst ((tabI s.table).map V.int ++ [.int (-1)]))) lt = some (.lst ((tabI (s.table ++ [none])).map V.int)) := by rw [upd_same, tabI_snoc]
  generalize upd H1 lt (.lst ((tabI s.table).map V.int ++ [.int (-1)])) = H2 at m2 d2 a2 t2
  refine ⟨upd_same, m2.off a2 noM_desk h.ma.symm, d2.off a2 noD_desk h.da.symm, by rw [upd_ne h.ta]; exact t2, .inl ⟨rfl, rfl, by simp⟩, ⟨fun m' hm' => ?_, fun d' hd' => ?_, ?_, h.ok.n16⟩, ?_, h.md, h.mt, h.dt, (by intro z; cases z), (by intro z; cases z), (by intro z; cases z), h.tw.snoc h.tl m⟩
  · rcases List.mem_append.mp hm' with q | q
    · exact h.ok.m m' q
    · rw [List.mem_singleton.mp q]; exact om
  · have od := h.ok.d d' hd'
    have e : (s.msgs ++ [m]).length = s.msgs.length + 1 := by rw [List.length_append, List.length_singleton]
    exact ⟨by show _ < (s.msgs ++ [m]).length; rw [e]; have := od.a; omega, by show _ < (s.msgs ++ [m]).length; rw [e]; have := od.b; omega, od.ne, od.k, od.g⟩
  · show (s.msgs ++ [m]).length ≤ 8
    rw [List.length_append, List.length_singleton]; omega
  · show (s.table ++ [none]).length = (s.msgs ++ [m]).length
    rw [List.length_append, List.length_append, h.tl]
    rfl
end
theorem uf {G : Hp} {x p : Addr} {u : HO} (h : (upd G x u) p = none) : G p = none := by
  by_cases e : p = x
  · rw [e, upd_same] at h; cases h
  · rw [upd_ne e] at h; exact h
theorem spH_same {A : Adr} {H H1 : Hp} {a p : Addr} {own : List Addr} {s : Plan} {place : Nat} {ns ans : List Int} {Q : VK} (d : DeskAt A H a own s)
    (k : ∀ (H' : Hp) (p : Addr) (own' : List Addr), DeskAt A H' a own' (callF place s ns).1 → H' p = some (.lst ((callF place s ns).2.map V.int)) → Fr H H' own → SubO H own own' → H p = none → (callF place s ns).2.length ≤ 1000 → Q (.ref p) H')
    (e : callF place s ns = (s, ans)) (s1 : Same H H1) (hp : H1 p = some (.lst (ans.map V.int))) (h0 : H p = none) (hz : ans.length ≤ 1000 := by exact Nat.le_of_ble_eq_true rfl) : Q (.ref p) H1 := by
  obtain ⟨dx, lm, ld, lt, kv, eo, h⟩ := d
  refine k H1 p own ?_ ?_ (Fr.of s1) (SubO.refl _ _) h0 (by rw [e]; exact hz)
  · rw [e]; exact ⟨dx, lm, ld, lt, kv, eo, h.keep s1⟩
  · rw [e]; exact hp
def sp_answer_message (K : PySem.W.Frag) (A : Adr) : Sp := spH A 0 5
def sp_answer_demand (K : PySem.W.Frag) (A : Adr) : Sp := spH A 1 4
def sp_answer_put (K : PySem.W.Frag) (A : Adr) : Sp := spH A 2 2
def sp_answer_unput (K : PySem.W.Frag) (A : Adr) : Sp := spH A 3 1
def sp_answer_check (K : PySem.W.Frag) (A : Adr) : Sp := spH A 4 0
def sp_answer_search (K : PySem.W.Frag) (A : Adr) : Sp := spH A 5 1
def sp_answer_count (K : PySem.W.Frag) (A : Adr) : Sp := spH A 6 1
def sp_answer_blame (K : PySem.W.Frag) (A : Adr) : Sp := spH A 7 1
def sp_answer_keep (K : PySem.W.Frag) (A : Adr) : Sp := spH A 8 0
def sp_answer_steps (K : PySem.W.Frag) (A : Adr) : Sp := spH A 9 0
def sp_answer_room (K : PySem.W.Frag) (A : Adr) : Sp := spH A 10 1
def sp_answer_at (K : PySem.W.Frag) (A : Adr) : Sp := spH A 11 2
def sp_answer_next (K : PySem.W.Frag) (A : Adr) : Sp := spH A 12 2
def sp_answer_load (K : PySem.W.Frag) (A : Adr) : Sp := spH A 13 1
def sp_answer_free (K : PySem.W.Frag) (A : Adr) : Sp := spH A 14 1
def sp_answer_wait (K : PySem.W.Frag) (A : Adr) : Sp := spH A 15 2
def sp_answer_table (K : PySem.W.Frag) (A : Adr) : Sp := spH A 16 0
def sp_answer_state (K : PySem.W.Frag) (A : Adr) : Sp := spH A 17 0
def sp_as_row (K : PySem.W.Frag) (A : Adr) : Sp := fun vs H Q _ => ∃ (l : Addr) (xs : List V), vs = [.ref l] ∧ H l = some (.lst xs) ∧ xs.length ≤ 100000 ∧ ∀ (H' : Hp) (p : Addr), Same H H' → H p = none → H' p = some (.lst (.int (xs.length : Nat) :: xs)) → Q (.ref p) H'
def sp_is_good (K : PySem.W.Frag) (A : Adr) : Sp := fun vs H Q _ => ∃ (a l dx lm ld lt : Addr) (kv : V) (s : Plan) (t : List (Option Nat)), vs = [.ref a, .ref l] ∧ DeskP A H a dx lm ld lt kv s ∧ H l = some (.lst ((tabI t).map V.int)) ∧ t.length = s.msgs.length ∧ ∀ H', Same H H' → Q (.bl (Vbavab.good s t)) H'
section
variable {P : Program} {w : World} {K : PySem.W.Frag} {mg : Str → Option Value} {base : Heap} {A : Adr}
theorem ok_as_row {f : Addr} {fd : FuncData} (F : Fun K "as_row" "as_row" s_as_row f fd) (T : Txt K mg A) : FnOk P w K mg base CX0 1 f fd ["numbers"] (sp_as_row K A) := by
  have nd := sc_as_row.nd
  refine F.ok sc_as_row (fun vs H Q E h => ?_) (fun cdv Ar outer s H vs Q E hr h => ?_)
  · obtain ⟨l, xs, rfl, hl, hz, k⟩ := h; rfl
  obtain ⟨l, xs, rfl, hl, hz, k⟩ := h
  refine ⟨_, (pss_one (ps_ret (pe_op op_cat (pe_lst (pa_cons (pe_callB call_len_seq (by rfl) T.len PySem.boot_len (pa_cons (pv 0) pa_nil)) pa_nil)) (pv 0)))), ?_⟩
  refine ⟨_, rfl, _, _, rfl, .inl (SqL.of hl), (by show 1 ≤ sizeLine; decide), fun l1 h1 => ?_⟩
  have nl : l ≠ l1 := ne_of_none hl h1
  have hl2 : (upd H l1 (.lst [.int (xs.length : Nat)])) l = some (.lst xs) := by rw [upd_ne nl]; exact hl
  refine ⟨_, rfl, l1, l, _, _, rfl, rfl, upd_same, hl2, Nat.le_of_lt (line_of (by show 1 + xs.length ≤ 1000000; omega)), fun p hp => ?_⟩
  exact k _ p ((Same.put h1).new ((Same.put h1).free hp)) ((Same.put h1).free hp) upd_same
theorem ok_is_good {f : Addr} {fd : FuncData} (F : Fun K "is_good" "is_good" s_is_good f fd) (T : Txt K mg A) (c_table_faults : CalX P w K mg base 5 "table_faults" ["messages", "demands", "table"] (sp_table_faults K A)) : FnOk P w K mg base CX0 6 f fd ["desk", "table"] (sp_is_good K A) := by
  obtain ⟨f_table_faults, fd_table_faults, c_table_faults⟩ := c_table_faults
  have nd := sc_is_good.nd
  refine F.ok sc_is_good (fun vs H Q E h => ?_) (fun cdv Ar outer s H vs Q E hr h => ?_)
  · obtain ⟨a, l, dx, lm, ld, lt, kv, s, t, rfl, h, hl, ht, k⟩ := h; rfl
  obtain ⟨a, l, dx, lm, ld, lt, kv, s, t, rfl, h, hl, ht, k⟩ := h
  refine ⟨_, (pss_one (ps_ret (pe_cmpR op_eq (pe_callB call_len_seq (by rfl) T.len PySem.boot_len (pa_cons (pe_call c_table_faults.ok (hr.mono (by decide)) rfl c_table_faults.gm c_table_faults.kp c_table_faults.b .nil pass0 (pa_cons (pe_fld (pv 0) rfl) (pa_cons (pe_fld (pv 0) rfl) (pa_cons (pv 1) pa_nil)))) pa_nil)) pe_int (nomark _)))), ?_⟩
  have h1 := h.ob
  refine ⟨_, rfl, _, _, _, _, _, rfl, h1, T.clDesk, T.nDesk_messages, rfl, _, rfl, _, _, _, _, _, rfl, h1, T.clDesk, T.nDesk_demands, rfl, _, rfl, lm, ld, l, s, t, rfl, h.ms, h.ds, hl, h.ok, ht, fun H1 p s1 B => ?_⟩
  obtain ⟨xs, ex, exl⟩ := B.lst
  refine ⟨_, _, rfl, .inl (SqL.of ex), rfl, ?_⟩
  have e : decide (V.int (xs.length : Nat) = V.int 0) = Vbavab.good s t := by
    rw [List.length_map] at exl
    unfold Vbavab.good
    cases q : Vbavab.wrongs s t with
    | nil =>
      rw [q] at exl
      rw [exl]; rfl
    | cons y ys =>
      rw [q, List.length_cons] at exl
      refine decide_eq_false fun z => ?_
      injection z with z
      omega
  rw [e]
  exact k H1 s1
end
theorem call0 (s : Plan) (p l e t b : Int) : callF 0 s [p, l, e, t, b] = Vbavab.messageCall s p l e t b := rfl
theorem call1 (s : Plan) (k a b g : Int) : callF 1 s [k, a, b, g] = Vbavab.demandCall s k a b g := rfl
theorem call2 (s : Plan) (m x : Int) : callF 2 s [m, x] = Vbavab.putCall s m x := rfl
theorem call3 (s : Plan) (m : Int) : callF 3 s [m] = Vbavab.unputCall s m := rfl
theorem call4 (s : Plan) : callF 4 s [] = (s, Vbavab.wrongRow (Vbavab.wrongs s s.table)) := rfl
theorem call5 (s : Plan) (b : Int) : callF 5 s [b] = Vbavab.searchCall s b := rfl
theorem call6 (s : Plan) (b : Int) : callF 6 s [b] = Vbavab.countCall s b := rfl
theorem call7 (s : Plan) (b : Int) : callF 7 s [b] = Vbavab.blameCall s b := rfl
theorem call9 (s : Plan) : callF 9 s [] = Vbavab.stepsCall s := rfl
theorem call10 (s : Plan) (m : Int) : callF 10 s [m] = Vbavab.roomCall s m := rfl
theorem call11 (s : Plan) (b t : Int) : callF 11 s [b, t] = Vbavab.step s (.at_ b t) := rfl
theorem call12 (s : Plan) (b t : Int) : callF 12 s [b, t] = Vbavab.step s (.next b t) := rfl
theorem call13 (s : Plan) (b : Int) : callF 13 s [b] = Vbavab.step s (.load b) := rfl
theorem call14 (s : Plan) (b : Int) : callF 14 s [b] = Vbavab.step s (.free b) := rfl
theorem call15 (s : Plan) (a b : Int) : callF 15 s [a, b] = Vbavab.step s (.wait a b) := rfl
theorem call16 (s : Plan) : callF 16 s [] = (s, Vbavab.tableRow s.table) := rfl
theorem call17 (s : Plan) : callF 17 s [] = (s, Vbavab.stateRow s) := rfl
theorem len1 {ns : List Int} (h : ns.length = 1) : ∃ a, ns = [a] := match ns, h with | [a], _ => ⟨a, rfl⟩
theorem len2 {ns : List Int} (h : ns.length = 2) : ∃ a b, ns = [a, b] := match ns, h with | [a, b], _ => ⟨a, b, rfl⟩
theorem len4 {ns : List Int} (h : ns.length = 4) : ∃ a b c d, ns = [a, b, c, d] := match ns, h with | [a, b, c, d], _ => ⟨a, b, c, d, rfl⟩
theorem len5 {ns : List Int} (h : ns.length = 5) : ∃ a b c d e, ns = [a, b, c, d, e] := match ns, h with | [a, b, c, d, e], _ => ⟨a, b, c, d, e, rfl⟩
theorem isMsg_nat {s : Plan} {m : Int} (h : Vbavab.isMsg s m = true) : ∃ n : Nat, m = (n : Nat) ∧ n < s.msgs.length := by
  unfold Vbavab.isMsg Vbavab.inR at h
  rw [Bool.and_eq_true, decide_eq_true_eq, decide_eq_true_eq] at h
  exact ⟨m.toNat, by omega, by have := h.2; simp at this; omega⟩
section
variable {P : Program} {w : World} {K : PySem.W.Frag} {mg : Str → Option Value} {base : Heap} {A : Adr}
theorem ok_answer_keep {f : Addr} {fd : FuncData} (F : Fun K "answer_keep" "answer_keep" s_answer_keep f fd) (T : Txt K mg A) : FnOk P w K mg base CX0 1 f fd ["desk", "numbers"] (sp_answer_keep K A) := by
  have nd := sc_answer_keep.nd
  refine F.ok sc_answer_keep (fun vs H Q E h => ?_) (fun cdv Ar outer s H vs Q E hr h => ?_)
  · obtain ⟨a, ln, own, s, ns, rfl, ⟨dx, lm, ld, lt, kv, rfl, h⟩, hn, hl, nown, k⟩ := h; rfl
  obtain ⟨a, ln, own, s, ns, rfl, ⟨dx, lm, ld, lt, kv, rfl, h⟩, hn, hl, nown, k⟩ := h
  refine ⟨_, (pss_cons (ps_fld (pv 0) (pe_callTy call_list_of (by rfl) T.list boot_list (pa_cons (pe_fld (pv 0) rfl) pa_nil)) rfl)
 (pss_one (ps_ret (pe_lst (pa_cons pe_int pa_nil))))), ?_⟩
  have h1 := h.ob
  have e0 : ns = [] := List.eq_nil_of_length_eq_zero hl
  subst e0
  refine ⟨_, rfl, _, _, _, _, _, rfl, h1, T.clDesk, T.nDesk_table, rfl, _, _, rfl, .inl (SqL.of h.tb), fun l hl => ?_⟩
  have na : a ≠ l := ne_of_none h1 hl
  refine ⟨_, rfl, a, _, dx, _, rfl, (upd_ne na).trans h1, T.clDesk, T.nDesk_kept, Nat.le_of_ble_eq_true rfl, ?_⟩
  have d2 := h.newKept hl
  have f2 : Fr H (upd (upd H l (.lst ((tabI s.table).map V.int))) a (.ins A.cDesk dx (deskF lm ld lt (.ref l)))) (a :: lm :: ld :: lt :: kvA kv) := ((Fr.of (Same.refl H)).upd (.inr hl)).upd (.inl (by simp))
  refine ⟨(by show 1 ≤ sizeLine; decide), fun p hp => ?_⟩
  refine k _ p _ ⟨dx, lm, ld, lt, .ref l, rfl, d2.keep (Same.put hp)⟩ upd_same (f2.trans (Fr.of (Same.put hp))) (fun y hy => ?_) (uf (uf hp)) (Nat.le_of_ble_eq_true rfl)
  rcases List.mem_cons.mp hy with q | hy
  · exact .inl (by rw [q]; simp)
  rcases List.mem_cons.mp hy with q | hy
  · exact .inl (by rw [q]; simp)
  rcases List.mem_cons.mp hy with q | hy
  · exact .inl (by rw [q]; simp)
  rcases List.mem_cons.mp hy with q | hy
  · exact .inl (by rw [q]; simp)
  · exact .inr (by rw [List.mem_singleton.mp hy]; exact hl)
theorem ok_answer_unput {f : Addr} {fd : FuncData} (F : Fun K "answer_unput" "answer_unput" s_answer_unput f fd) (T : Txt K mg A) (c_has_message : CalX P w K mg base 1 "has_message" ["desk", "number"] (sp_has_message K A)) : FnOk P w K mg base CX0 2 f fd ["desk", "numbers"] (sp_answer_unput K A) := by
  obtain ⟨f_has_message, fd_has_message, c_has_message⟩ := c_has_message
  have nd := sc_answer_unput.nd
  refine F.ok sc_answer_unput (fun vs H Q E h => ?_) (fun cdv Ar outer s H vs Q E hr h => ?_)
  · obtain ⟨a, ln, own, s, ns, rfl, ⟨dx, lm, ld, lt, kv, rfl, h⟩, hn, hl, nown, k⟩ := h; rfl
  obtain ⟨a, ln, own, s, ns, rfl, ⟨dx, lm, ld, lt, kv, rfl, h⟩, hn, hl, nown, k⟩ := h
  refine ⟨_, (pss_cons (ps_set (i := 2) nd rfl (Or.inl rfl) (pe_ix ix_list (pv 1) pe_int (fun _ _ => rfl)))
 (pss_cons (ps_if (pt_not (pt_val (pe_call c_has_message.ok (hr.mono (by decide)) rfl c_has_message.gm c_has_message.kp c_has_message.b .nil pass0 (pa_cons (pv 0) (pa_cons (pv 2) pa_nil)))))
 (pss_one (ps_ret (pe_lst (pa_cons (pe_cst rfl T.g_NO_MESSAGE) pa_nil))))
 pss_nil)
 (pss_cons (ps_if (pt_cmpR op_eq (pe_ix ix_list (pe_fld (pv 0) rfl) (pv 2) (fun _ _ => rfl)) (pe_cst rfl T.g_NOT_PUT) (nomark _))
 (pss_one (ps_ret (pe_lst (pa_cons (pe_cst rfl T.g_NOTHING_PUT) pa_nil))))
 pss_nil)
 (pss_cons (ps_asg (pe_cst rfl T.g_NOT_PUT) (pg_sub (pe_fld (pv 0) rfl) (pv 2) set_list))
 (pss_one (ps_ret (pe_lst (pa_cons pe_int pa_nil)))))))), ?_⟩
  have h1 := h.ob
  have D : DeskAt A H a (a :: lm :: ld :: lt :: kvA kv) s := ⟨dx, lm, ld, lt, kv, rfl, h⟩
  obtain ⟨m, rfl⟩ := len1 hl
  refine ⟨_, rfl, ln, _, 0, .int m, rfl, rfl, SqL.of hn, rfl, ?_⟩
  refine ⟨_, rfl, _, rfl, a, dx, lm, ld, lt, kv, s, m, rfl, h, _, rfl, ?_⟩
  refine ite2 (fun q => ?_) (fun q => ?_)
  · have q : Vbavab.isMsg s m = false := by cases z : Vbavab.isMsg s m; rfl; rw [z] at q; cases q
    exact ⟨(by show 1 ≤ sizeLine; decide), fun p hp => spH_same (ans := [-4]) D k (by rw [call3]; unfold Vbavab.unputCall; rw [if_pos q]; rfl) (Same.put hp) upd_same hp⟩
  have q : Vbavab.isMsg s m = true := by cases z : Vbavab.isMsg s m; rw [z] at q; exact absurd rfl q; rfl
  obtain ⟨n, rfl, hn2⟩ := isMsg_nat q
  have hnt : n < s.table.length := by rw [h.tl]; exact hn2
  refine ⟨_, rfl, _, _, _, _, _, rfl, h1, T.clDesk, T.nDesk_table, rfl, _, rfl, _, _, _, _, rfl, rfl, SqL.of h.tb, (at_int (tabI_at hnt)), rfl, _, rfl, ?_⟩
  have ed : decide (V.int (slotI (Vbavab.beginOf s.table n)) = V.int (-1)) = !Vbavab.isPut s.table n := by
    rw [isPut_some, ← slotI_put]
    exact decide_eq_decide.mpr ⟨fun z => by injection z, fun z => by rw [z]⟩
  show if decide (V.int (slotI (Vbavab.beginOf s.table n)) = V.int (-1)) = true then _ else _
  rw [ed]
  refine ite2 (fun z => ?_) (fun z => ?_)
  · have z : Vbavab.isPut s.table n = false := by cases y : Vbavab.isPut s.table n; rfl; rw [y] at z; cases z
    exact ⟨(by show 1 ≤ sizeLine; decide), fun p hp => spH_same (ans := [-7]) D k (by rw [call3]; unfold Vbavab.unputCall; rw [if_neg (by rw [q]; decide), if_pos (by rw [Int.toNat_natCast]; exact z)]; rfl) (Same.put hp) upd_same hp⟩
  have z : Vbavab.isPut s.table n = true := by cases y : Vbavab.isPut s.table n; rw [y] at z; exact absurd rfl z; rfl
  refine ⟨_, rfl, _, _, _, _, _, rfl, h1, T.clDesk, T.nDesk_table, rfl, _, rfl, lt, _, _, n, rfl, rfl, h.tb, ?_, ?_⟩
  · rw [List.length_map, tabI_len]
    exact ixN_nat hnt
  have et : ((tabI s.table).map V.int).set n (.int (-1)) = (tabI (s.table.set n none)).map V.int := by
    unfold tabI
    rw [List.map_set, List.map_set]; rfl
  rw [et]
  have d2 := h.setTab (s.table.set n none) (by rw [List.length_set, h.tl]) (h.tw.set none (fun x e => by cases e))
  have f2 : Fr H (upd H lt (.lst ((tabI (s.table.set n none)).map V.int))) (a :: lm :: ld :: lt :: kvA kv) := (Fr.of (Same.refl H)).upd (.inl (by simp))
  refine ⟨(by show 1 ≤ sizeLine; decide), fun p hp => ?_⟩
  have ec : callF 3 s [(n : Int)] = ({ s with table := s.table.set n none }, [0]) := by
    rw [call3]; unfold Vbavab.unputCall
    rw [if_neg (by rw [q]; decide), if_neg (by rw [Int.toNat_natCast, z]; decide), Int.toNat_natCast]; rfl
  refine k _ p _ ?_ ?_ (f2.trans (Fr.of (Same.put hp))) (SubO.refl _ _) (uf hp) (by rw [ec]; exact Nat.le_of_ble_eq_true rfl)
  · rw [ec]; exact ⟨dx, lm, ld, lt, kv, rfl, d2.keep (Same.put hp)⟩
  · rw [ec]; exact upd_same
end
theorem inAll1 (x lo hi : Int) : inAll [x] [(lo, hi)] = Vbavab.inR x lo hi := by
  show (Vbavab.inR x lo hi && true) = _
  rw [Bool.and_true]
theorem inAll2 (x y lo hi lo2 hi2 : Int) : inAll [x, y] [(lo, hi), (lo2, hi2)] = (Vbavab.inR x lo hi && Vbavab.inR y lo2 hi2) := by
  show (Vbavab.inR x lo hi && (Vbavab.inR y lo2 hi2 && true)) = _
  rw [Bool.and_true]
theorem inR_iff {x lo hi : Int} : Vbavab.inR x lo hi = true ↔ lo ≤ x ∧ x ≤ hi := by
  unfold Vbavab.inR
  rw [Bool.and_eq_true, decide_eq_true_eq, decide_eq_true_eq]
theorem notF {b : Bool} (h : (!b) = true) : b = false := by cases b; rfl; cases h
theorem notT {b : Bool} (h : ¬ (!b) = true) : b = true := by cases b; exact absurd rfl h; rfl
section
variable {P : Program} {w : World} {K : PySem.W.Frag} {mg : Str → Option Value} {base : Heap} {A : Adr}
theorem ok_answer_put {f : Addr} {fd : FuncData} (F : Fun K "answer_put" "answer_put" s_answer_put f fd) (T : Txt K mg A) (c_in_ranges : CalX P w K mg base 1 "in_ranges" ["numbers", "ranges"] (sp_in_ranges K A)) (c_has_message : CalX P w K mg base 1 "has_message" ["desk", "number"] (sp_has_message K A)) : FnOk P w K mg base CX0 2 f fd ["desk", "numbers"] (sp_answer_put K A) := by
  obtain ⟨f_in_ranges, fd_in_ranges, c_in_ranges⟩ := c_in_ranges
  obtain ⟨f_has_message, fd_has_message, c_has_message⟩ := c_has_message
  have nd := sc_answer_put.nd
  refine F.ok sc_answer_put (fun vs H Q E h => ?_) (fun cdv Ar outer s H vs Q E hr h => ?_)
  · obtain ⟨a, ln, own, s, ns, rfl, ⟨dx, lm, ld, lt, kv, rfl, h⟩, hn, hl, nown, k⟩ := h; rfl
  obtain ⟨a, ln, own, s, ns, rfl, ⟨dx, lm, ld, lt, kv, rfl, h⟩, hn, hl, nown, k⟩ := h
  refine ⟨_, (pss_cons (ps_set (i := 2) nd rfl (Or.inl rfl) (pe_ix ix_list (pv 1) pe_int (fun _ _ => rfl)))
 (pss_cons (ps_set (i := 3) nd rfl (Or.inl rfl) (pe_ix ix_list (pv 1) pe_int (fun _ _ => rfl)))
 (pss_cons (ps_if (pt_not (pt_val (pe_call c_in_ranges.ok (hr.mono (by decide)) rfl c_in_ranges.gm c_in_ranges.kp c_in_ranges.b .nil pass0 (pa_cons (pe_lst (pa_cons (pv 3) pa_nil)) (pa_cons (pe_cst rfl T.g_BEGINNING_RANGES) pa_nil)))))
 (pss_one (ps_ret (pe_lst (pa_cons (pe_cst rfl T.g_OUT_OF_RANGE) pa_nil))))
 pss_nil)
 (pss_cons (ps_if (pt_not (pt_val (pe_call c_has_message.ok (hr.mono (by decide)) rfl c_has_message.gm c_has_message.kp c_has_message.b .nil pass0 (pa_cons (pv 0) (pa_cons (pv 2) pa_nil)))))
 (pss_one (ps_ret (pe_lst (pa_cons (pe_cst rfl T.g_NO_MESSAGE) pa_nil))))
 pss_nil)
 (pss_cons (ps_if (PW.pt (pw_or (pt_cmpR op_lt (pv 3) (pe_fld (pe_ix ix_list (pe_fld (pv 0) rfl) (pv 2) (fun _ _ => rfl)) rfl) (nomark _)) (pw_or1 (pt_cmpR op_gt (pv 3) (pe_fld (pe_ix ix_list (pe_fld (pv 0) rfl) (pv 2) (fun _ _ => rfl)) rfl) (nomark _)))))
 (pss_one (ps_ret (pe_lst (pa_cons (pe_cst rfl T.g_NO_FIT) pa_nil))))
 pss_nil)
 (pss_cons (ps_asg (pv 3) (pg_sub (pe_fld (pv 0) rfl) (pv 2) set_list))
 (pss_one (ps_ret (pe_lst (pa_cons pe_int pa_nil)))))))))), ?_⟩
  have h1 := h.ob
  have D : DeskAt A H a (a :: lm :: ld :: lt :: kvA kv) s := ⟨dx, lm, ld, lt, kv, rfl, h⟩
  obtain ⟨m, x, rfl⟩ := len2 hl
  refine ⟨_, rfl, ln, _, 0, .int m, rfl, rfl, SqL.of hn, rfl, ?_⟩
  refine ⟨_, rfl, ln, _, 1, .int x, rfl, rfl, SqL.of hn, rfl, ?_⟩
  refine ⟨_, rfl, (by show 1 ≤ sizeLine; decide), fun l1 hl1 => ⟨l1, _, [x], _, rfl, upd_same, T.r_BEGINNING_RANGES, rfl, fun H2 t2 => ⟨_, rfl, ?_⟩⟩⟩
  have s2 : Same H H2 := (Same.put hl1).trans t2
  clear t2
  have h2 := h.keep s2
  have g2 := h2.ob
  rw [inAll1]
  refine ite2 (fun q => ?_) (fun q => ?_)
  · exact ⟨(by show 1 ≤ sizeLine; decide), fun p hp => spH_same (ans := [-1]) D k (by rw [call2]; unfold Vbavab.putCall; rw [if_pos (notF q)]; rfl) (s2.new (s2.free hp)) upd_same (s2.free hp)⟩
  have q := notT q
  refine ⟨_, rfl, _, rfl, a, dx, lm, ld, lt, kv, s, m, rfl, h2, _, rfl, ?_⟩
  refine ite2 (fun z => ?_) (fun z => ?_)
  · exact ⟨(by show 1 ≤ sizeLine; decide), fun p hp => spH_same (ans := [-4]) D k (by rw [call2]; unfold Vbavab.putCall; rw [if_neg (by rw [q]; decide), if_pos (notF z)]; rfl) (s2.new (s2.free hp)) upd_same (s2.free hp)⟩
  have z := notT z
  obtain ⟨n, rfl, hn2⟩ := isMsg_nat z
  obtain ⟨ms, hms, hmn, hat⟩ := h2.ms.adr
  obtain ⟨am, dxm, em, gm0⟩ := hat n hn2
  have fit : ∀ c : Bool, (c = true ↔ (x < ((gm s.msgs n).early : Int) ∨ ((gm s.msgs n).late : Int) < x)) → c = true → callF 2 s [(n : Int), x] = (s, [-5]) := fun c e ec => by
    rw [call2]; unfold Vbavab.putCall
    rw [if_neg (by rw [q]; decide), if_neg (by rw [z]; decide), Int.toNat_natCast]
    exact if_pos (e.mp ec)
  refine ⟨_, rfl, _, rfl, _, _, _, _, _, rfl, g2, T.clDesk, T.nDesk_messages, rfl, _, rfl, _, _, _, _, rfl, rfl, SqL.of hms, (at_ref em), _, _, _, _, _, rfl, gm0, T.clMessage, T.nMessage_earliest, rfl, _, _, rfl, rfl, _, rfl, ?_⟩
  refine ite2 (fun y => ?_) (fun y => ?_)
  · have y := of_decide_eq_true y
    exact iteT ⟨(by show 1 ≤ sizeLine; decide), fun p hp => spH_same (ans := [-5]) D k (fit true ⟨fun _ => .inl y, fun _ => rfl⟩ rfl) (s2.new (s2.free hp)) upd_same (s2.free hp)⟩
  have y : ¬ x < ((gm s.msgs n).early : Int) := fun z => y (decide_eq_true z)
  refine ⟨_, rfl, _, rfl, _, _, _, _, _, rfl, g2, T.clDesk, T.nDesk_messages, rfl, _, rfl, _, _, _, _, rfl, rfl, SqL.of hms, (at_ref em), _, _, _, _, _, rfl, gm0, T.clMessage, T.nMessage_latest, rfl, _, _, rfl, rfl, _, rfl, ?_⟩
  refine ite2 (fun y2 => ?_) (fun y2 => ?_)
  · have y2 := of_decide_eq_true y2
    exact ⟨(by show 1 ≤ sizeLine; decide), fun p hp => spH_same (ans := [-5]) D k (fit true ⟨fun _ => .inr y2, fun _ => rfl⟩ rfl) (s2.new (s2.free hp)) upd_same (s2.free hp)⟩
  have y2 : ¬ ((gm s.msgs n).late : Int) < x := fun z => y2 (decide_eq_true z)
  obtain ⟨xn, rfl⟩ : ∃ xn : Nat, x = (xn : Nat) := ⟨x.toNat, by have := (inR_iff.mp q).1; omega⟩
  have hnt : n < s.table.length := by rw [h.tl]; exact hn2
  refine ⟨_, rfl, _, rfl, _, _, _, _, _, rfl, g2, T.clDesk, T.nDesk_table, rfl, _, rfl, lt, _, _, n, rfl, rfl, h2.tb, ?_, ?_⟩
  · rw [List.length_map, tabI_len]
    exact ixN_nat hnt
  have et : ((tabI s.table).map V.int).set n (.int (xn : Nat)) = (tabI (s.table.set n (some xn))).map V.int := by
    unfold tabI
    rw [List.map_set, List.map_set]; rfl
  rw [et]
  have d2 := h2.setTab (s.table.set n (some xn)) (by rw [List.length_set, h.tl]) (h.tw.set (some xn) (fun x e => by cases e; omega))
  have f2 : Fr H (upd H2 lt (.lst ((tabI (s.table.set n (some xn))).map V.int))) (a :: lm :: ld :: lt :: kvA kv) := (Fr.of s2).upd (.inl (by simp))
  refine ⟨(by show 1 ≤ sizeLine; decide), fun p hp => ?_⟩
  have ec : callF 2 s [(n : Int), (xn : Int)] = ({ s with table := s.table.set n (some xn) }, [0]) := by
    rw [call2]; unfold Vbavab.putCall
    rw [if_neg (by rw [q]; decide), if_neg (by rw [z]; decide), Int.toNat_natCast, Int.toNat_natCast]
    exact if_neg (fun o => o.elim y y2)
  refine k _ p _ ?_ ?_ (f2.trans (Fr.of (Same.put hp))) (SubO.refl _ _) (s2.free (uf hp)) (by rw [ec]; exact Nat.le_of_ble_eq_true rfl)
  · rw [ec]; exact ⟨dx, lm, ld, lt, kv, rfl, d2.keep (Same.put hp)⟩
  · rw [ec]; exact upd_same
theorem ok_answer_message {f : Addr} {fd : FuncData} (F : Fun K "answer_message" "answer_message" s_answer_message f fd) (T : Txt K mg A) (c_Message : MkX P w K mg base 1 "Message" A.cMessage ["self", "period", "length", "earliest", "latest", "buses"] (sp_Message_init K A)) (c_in_ranges : CalX P w K mg base 1 "in_ranges" ["numbers", "ranges"] (sp_in_ranges K A)) : FnOk P w K mg base CX0 3 f fd ["desk", "numbers"] (sp_answer_message K A) := by
  obtain ⟨f_Message, fd_Message, c_Message⟩ := c_Message
  obtain ⟨f_in_ranges, fd_in_ranges, c_in_ranges⟩ := c_in_ranges
  have nd := sc_answer_message.nd
  refine F.ok sc_answer_message (fun vs H Q E h => ?_) (fun cdv Ar outer s H vs Q E hr h => ?_)
  · obtain ⟨a, ln, own, s, ns, rfl, ⟨dx, lm, ld, lt, kv, rfl, h⟩, hn, hl, nown, k⟩ := h; rfl
  obtain ⟨a, ln, own, s, ns, rfl, ⟨dx, lm, ld, lt, kv, rfl, h⟩, hn, hl, nown, k⟩ := h
  refine ⟨_, (pss_cons (ps_if (pt_not (pt_val (pe_call c_in_ranges.ok (hr.mono (by decide)) rfl c_in_ranges.gm c_in_ranges.kp c_in_ranges.b .nil pass0 (pa_cons (pv 1) (pa_cons (pe_cst rfl T.g_MESSAGE_RANGES) pa_nil)))))
 (pss_one (ps_ret (pe_lst (pa_cons (pe_cst rfl T.g_OUT_OF_RANGE) pa_nil))))
 pss_nil)
 (pss_cons (ps_set (i := 2) nd rfl (Or.inl rfl) (pe_make c_Message.mkC c_Message.ok (hr.mono (by decide)) rfl c_Message.gm c_Message.b .nil pass0 (pa_cons (pe_ix ix_list (pv 1) pe_int (fun _ _ => rfl)) (pa_cons (pe_ix ix_list (pv 1) pe_int (fun _ _ => rfl)) (pa_cons (pe_ix ix_list (pv 1) pe_int (fun _ _ => rfl)) (pa_cons (pe_ix ix_list (pv 1) pe_int (fun _ _ => rfl)) (pa_cons (pe_ix ix_list (pv 1) pe_int (fun _ _ => rfl)) pa_nil)))))))
 (pss_cons (ps_if (PW.pt (pw_or (pt_cmpR op_lt (pe_fld (pv 2) rfl) (pe_fld (pv 2) rfl) (nomark _)) (pw_or1 (pt_cmpR op_gt (pe_op op_add (pe_fld (pv 2) rfl) (pe_fld (pv 2) rfl)) (pe_fld (pv 2) rfl) (nomark _)))))
 (pss_one (ps_ret (pe_lst (pa_cons (pe_cst rfl T.g_NO_FIT) pa_nil))))
 pss_nil)
 (pss_cons (ps_if (pt_cmpR op_eq (pe_callB call_len_seq (by rfl) T.len PySem.boot_len (pa_cons (pe_fld (pv 0) rfl) pa_nil)) (pe_cst rfl T.g_MOST_MESSAGES) (nomark _))
 (pss_one (ps_ret (pe_lst (pa_cons (pe_cst rfl T.g_FULL) pa_nil))))
 pss_nil)
 (pss_cons (ps_expr (pe_bm PySem.F.plainAttrs_list PySem.F.slot_list_append PySem.F.type_list_append mt_append (pe_fld (pv 0) rfl) (pa_cons (pv 2) pa_nil)))
 (pss_cons (ps_expr (pe_bm PySem.F.plainAttrs_list PySem.F.slot_list_append PySem.F.type_list_append mt_append (pe_fld (pv 0) rfl) (pa_cons (pe_cst rfl T.g_NOT_PUT) pa_nil)))
 (pss_cons (ps_fld (pv 0) pe_non rfl)
 (pss_one (ps_ret (pe_lst (pa_cons (pe_op op_sub (pe_callB call_len_seq (by rfl) T.len PySem.boot_len (pa_cons (pe_fld (pv 0) rfl) pa_nil)) pe_int) pa_nil))))))))))), ?_⟩
  have h1 := h.ob
  have D : DeskAt A H a (a :: lm :: ld :: lt :: kvA kv) s := ⟨dx, lm, ld, lt, kv, rfl, h⟩
  obtain ⟨p, l, e, t, b, rfl⟩ := len5 hl
  refine ⟨_, rfl, ln, _, _, _, rfl, hn, T.r_MESSAGE_RANGES, rfl, fun H1 s1 => ⟨_, rfl, ?_⟩⟩
  have er : inAll [p, l, e, t, b] [(1, 64), (1, 64), (0, 63), (0, 63), (1, 3)] = (Vbavab.inR p 1 64 && (Vbavab.inR l 1 64 && (Vbavab.inR e 0 63 && (Vbavab.inR t 0 63 && Vbavab.inR b 1 3)))) := by
    show (Vbavab.inR p 1 64 && (Vbavab.inR l 1 64 && (Vbavab.inR e 0 63 && (Vbavab.inR t 0 63 && (Vbavab.inR b 1 3 && true))))) = _
    rw [Bool.and_true]
  rw [er]
  refine ite2 (fun q => ?_) (fun q => ?_)
  · exact ⟨(by show 1 ≤ sizeLine; decide), fun p hp => spH_same (ans := [-1]) D k (by rw [call0]; unfold Vbavab.messageCall; rw [if_pos (notF q)]; rfl) (s1.new (s1.free hp)) upd_same (s1.free hp)⟩
  have q := notT q
  have q' := q
  rw [Bool.and_eq_true, Bool.and_eq_true, Bool.and_eq_true, Bool.and_eq_true, inR_iff, inR_iff, inR_iff, inR_iff, inR_iff] at q'
  obtain ⟨pn, rfl⟩ : ∃ n : Nat, p = (n : Nat) := ⟨p.toNat, by omega⟩
  obtain ⟨lnn, rfl⟩ : ∃ n : Nat, l = (n : Nat) := ⟨l.toNat, by omega⟩
  obtain ⟨en, rfl⟩ : ∃ n : Nat, e = (n : Nat) := ⟨e.toNat, by omega⟩
  obtain ⟨tn, rfl⟩ : ∃ n : Nat, t = (n : Nat) := ⟨t.toNat, by omega⟩
  obtain ⟨bn, rfl⟩ : ∃ n : Nat, b = (n : Nat) := ⟨b.toNat, by omega⟩
  have hn1 := s1 _ _ hn
  refine ⟨_, rfl, ln, _, 0, .int pn, rfl, rfl, SqL.of hn1, rfl, _, rfl, ln, _, 1, .int lnn, rfl, rfl, SqL.of hn1, rfl, _, rfl, ln, _, 2, .int en, rfl, rfl, SqL.of hn1, rfl, _, rfl, ln, _, 3, .int tn, rfl, rfl, SqL.of hn1, rfl, _, rfl, ln, _, 4, .int bn, rfl, rfl, SqL.of hn1, rfl, ?_⟩
  intro x dxm hx hdx ndx
  refine ⟨x, dxm, _, _, _, _, _, rfl, upd_same, rfl, ?_⟩
  rw [upd_upd]
  have s2 : Same H1 (upd (upd H1 dxm (.own x)) x (.ins A.cMessage dxm (msgF ⟨pn, lnn, en, tn, bn⟩))) := (Same.put hdx).new hx
  have gx : (upd (upd H1 dxm (.own x)) x (.ins A.cMessage dxm (msgF ⟨pn, lnn, en, tn, bn⟩))) x = some (.ins A.cMessage dxm (msgF ⟨pn, lnn, en, tn, bn⟩)) := upd_same
  show tSeq _ _ _ _ (upd (upd H1 dxm (.own x)) x (.ins A.cMessage dxm (msgF ⟨pn, lnn, en, tn, bn⟩)))
  generalize upd (upd H1 dxm (.own x)) x (.ins A.cMessage dxm (msgF ⟨pn, lnn, en, tn, bn⟩)) = H2 at s2 gx
  have s2 : Same H H2 := s1.trans s2
  have h2 := h.keep s2
  have g2 := h2.ob
  have fit : (tn : Int) < en ∨ (pn : Int) < (tn : Int) + lnn → callF 0 s [(pn : Int), lnn, en, tn, bn] = (s, [-5]) := fun e => by
    rw [call0]; unfold Vbavab.messageCall
    rw [if_neg (by rw [q]; decide), if_pos e]; rfl
  refine ⟨_, rfl, _, _, _, _, _, rfl, gx, T.clMessage, T.nMessage_latest, rfl, _, rfl, _, _, _, _, _, rfl, gx, T.clMessage, T.nMessage_earliest, rfl, _, _, rfl, rfl, _, rfl, ?_⟩
  refine ite2 (fun y => ?_) (fun y => ?_)
  · have y : (tn : Int) < en := of_decide_eq_true y
    exact iteT ⟨(by show 1 ≤ sizeLine; decide), fun p hp => spH_same (ans := [-5]) D k (fit (.inl y)) (s2.new (s2.free hp)) upd_same (s2.free hp)⟩
  have y : ¬ (tn : Int) < en := fun z => y (decide_eq_true z)
  refine ⟨_, rfl, _, _, _, _, _, rfl, gx, T.clMessage, T.nMessage_latest, rfl, _, rfl, _, _, _, _, _, rfl, gx, T.clMessage, T.nMessage_length, rfl, _, _, rfl, rfl, _, rfl, _, _, _, _, _, rfl, gx, T.clMessage, T.nMessage_period, rfl, _, _, rfl, rfl, _, rfl, ?_⟩
  refine ite2 (fun y2 => ?_) (fun y2 => ?_)
  · have y2 : (pn : Int) < (tn : Int) + lnn := of_decide_eq_true y2
    exact ⟨(by show 1 ≤ sizeLine; decide), fun p hp => spH_same (ans := [-5]) D k (fit (.inr y2)) (s2.new (s2.free hp)) upd_same (s2.free hp)⟩
  have y2 : ¬ (pn : Int) < (tn : Int) + lnn := fun z => y2 (decide_eq_true z)
  obtain ⟨ms, hms, hmn, hat⟩ := h2.ms.adr
  have hml : (ms.map V.ref).length = s.msgs.length := by rw [List.length_map, hmn]
  refine ⟨_, rfl, _, _, _, _, _, rfl, g2, T.clDesk, T.nDesk_messages, rfl, _, _, rfl, .inl (SqL.of hms), rfl, _, rfl, ?_⟩
  refine ite2 (fun y3 => ?_) (fun y3 => ?_)
  · have y3 : s.msgs.length = 8 := by
      have z := of_decide_eq_true y3
      injection z with z; rw [hml] at z; omega
    exact ⟨(by show 1 ≤ sizeLine; decide), fun p hp => spH_same (ans := [-8]) D k (by rw [call0]; unfold Vbavab.messageCall; rw [if_neg (by rw [q]; decide), if_neg (fun o => o.elim y y2), if_pos (by show 8 ≤ _; omega)]; rfl) (s2.new (s2.free hp)) upd_same (s2.free hp)⟩
  have h8 := h.ok.n8
  have y3 : s.msgs.length < 8 := by
    have : ¬ s.msgs.length = 8 := fun z => y3 (decide_eq_true (by rw [hml, z]; rfl))
    omega
  have om : OkM ⟨pn, lnn, en, tn, bn⟩ := ⟨by show 1 ≤ pn; omega, by show pn ≤ 64; omega, by show 1 ≤ lnn; omega, by show tn + lnn ≤ pn; omega, by show en ≤ tn; omega, by show 1 ≤ bn; omega, by show bn ≤ 3; omega⟩
  have d3 := h2.addMsg ⟨dxm, gx⟩ hms om y3
  have t3 : (upd H2 lm (.lst (ms.map V.ref ++ [.ref x]))) lt = some (.lst ((tabI s.table).map V.int)) := by rw [upd_ne h.mt.symm]; exact h2.tb
  have a3 : (upd H2 lm (.lst (ms.map V.ref ++ [.ref x]))) a = some (.ins A.cDesk dx (deskF lm ld lt kv)) := by rw [upd_ne h.ma.symm]; exact g2
  have f3 : Fr H (upd (upd (upd H2 lm (.lst (ms.map V.ref ++ [.ref x]))) lt (.lst ((tabI s.table).map V.int ++ [.int (-1)]))) a (.ins A.cDesk dx (deskF lm ld lt .non))) (a :: lm :: ld :: lt :: kvA kv) := (((Fr.of s2).upd (.inl (by simp))).upd (.inl (by simp))).upd (.inl (by simp))
  refine ⟨_, rfl, _, _, _, _, _, rfl, g2, T.clDesk, T.nDesk_messages, rfl, .inl ⟨rfl, _, SqL.of hms⟩, _, rfl, lm, _, _, rfl, rfl, hms, line_of (by rw [hml]; omega), ?_⟩
  refine ⟨_, rfl, _, _, _, _, _, rfl, a3, T.clDesk, T.nDesk_table, rfl, .inl ⟨rfl, _, SqL.of t3⟩, lt, _, _, rfl, rfl, t3, line_of (by rw [List.length_map, tabI_len, h.tl]; omega), ?_⟩
  refine ⟨_, rfl, a, _, dx, _, rfl, (upd_ne h.ta.symm).trans a3, T.clDesk, T.nDesk_kept, Nat.le_of_ble_eq_true rfl, ?_⟩
  have g4 := d3.ob
  have m4 : (upd (upd (upd H2 lm (.lst (ms.map V.ref ++ [.ref x]))) lt (.lst ((tabI s.table).map V.int ++ [.int (-1)]))) a (.ins A.cDesk dx (deskF lm ld lt .non))) lm = some (.lst (ms.map V.ref ++ [.ref x])) := by
    rw [upd_ne h.ma, upd_ne h.mt, upd_same]
  refine ⟨_, rfl, _, _, _, _, _, rfl, g4, T.clDesk, T.nDesk_messages, rfl, _, _, rfl, .inl (SqL.of m4), _, _, rfl, rfl, (by show 1 ≤ sizeLine; decide), fun p hp => ?_⟩
  have ec : callF 0 s [(pn : Int), lnn, en, tn, bn] = ({ s with msgs := s.msgs ++ [⟨pn, lnn, en, tn, bn⟩], table := s.table ++ [none], kept := [] }, [(s.msgs.length : Int)]) := by
    rw [call0]; unfold Vbavab.messageCall
    rw [if_neg (by rw [q]; decide), if_neg (fun o => o.elim y y2), if_neg (by show ¬ 8 ≤ _; omega)]; rfl
  have el : (((ms.map V.ref ++ [V.ref x]).length : Nat) : Int) - 1 = (s.msgs.length : Int) := by
    rw [List.length_append, hml, List.length_singleton]; omega
  refine k _ p (a :: lm :: ld :: lt :: kvA .non) ?_ ?_ (f3.trans (Fr.of (Same.put hp))) (fun y hy => .inl (by
    rcases List.mem_cons.mp hy with q | hy
    · rw [q]; simp
    rcases List.mem_cons.mp hy with q | hy
    · rw [q]; simp
    rcases List.mem_cons.mp hy with q | hy
    · rw [q]; simp
    rcases List.mem_cons.mp hy with q | hy
    · rw [q]; simp
    · cases hy)) (s2.free (uf (uf (uf hp)))) (by rw [ec]; exact Nat.le_of_ble_eq_true rfl)
  · rw [ec]; exact ⟨dx, lm, ld, lt, .non, rfl, d3.keep (Same.put hp)⟩
  · rw [ec, upd_same]
    show some (HO.lst [V.int ((((ms.map V.ref ++ [V.ref x]).length : Nat) : Int) - 1)]) = _
    rw [el]; rfl
end
theorem flat3 : ∀ l : List (Nat × Nat × Nat), ((l.map rowW).flatten).length = 3 * l.length
  | [] => rfl
  | w :: l => by
    rw [List.map_cons, List.flatten_cons, List.length_append, flat3 l, List.length_cons]
    show 3 + _ = _
    omega
section
variable {P : Program} {w : World} {K : PySem.W.Frag} {mg : Str → Option Value} {base : Heap} {A : Adr}
theorem ok_answer_demand {f : Addr} {fd : FuncData} (F : Fun K "answer_demand" "answer_demand" s_answer_demand f fd) (T : Txt K mg A) (c_Demand : MkX P w K mg base 1 "Demand" A.cDemand ["self", "kind", "first", "second", "gap"] (sp_Demand_init K A)) (c_in_ranges : CalX P w K mg base 1 "in_ranges" ["numbers", "ranges"] (sp_in_ranges K A)) (c_has_message : CalX P w K mg base 1 "has_message" ["desk", "number"] (sp_has_message K A)) : FnOk P w K mg base CX0 3 f fd ["desk", "numbers"] (sp_answer_demand K A) := by
  obtain ⟨f_Demand, fd_Demand, c_Demand⟩ := c_Demand
  obtain ⟨f_in_ranges, fd_in_ranges, c_in_ranges⟩ := c_in_ranges
  obtain ⟨f_has_message, fd_has_message, c_has_message⟩ := c_has_message
  have nd := sc_answer_demand.nd
  refine F.ok sc_answer_demand (fun vs H Q E h => ?_) (fun cdv Ar outer s H vs Q E hr h => ?_)
  · obtain ⟨a, ln, own, s, ns, rfl, ⟨dx, lm, ld, lt, kv, rfl, h⟩, hn, hl, nown, k⟩ := h; rfl
  obtain ⟨a, ln, own, s, ns, rfl, ⟨dx, lm, ld, lt, kv, rfl, h⟩, hn, hl, nown, k⟩ := h
  refine ⟨_, (pss_cons (ps_set (i := 2) nd rfl (Or.inl rfl) (pe_make c_Demand.mkC c_Demand.ok (hr.mono (by decide)) rfl c_Demand.gm c_Demand.b .nil pass0 (pa_cons (pe_ix ix_list (pv 1) pe_int (fun _ _ => rfl)) (pa_cons (pe_ix ix_list (pv 1) pe_int (fun _ _ => rfl)) (pa_cons (pe_ix ix_list (pv 1) pe_int (fun _ _ => rfl)) (pa_cons (pe_ix ix_list (pv 1) pe_int (fun _ _ => rfl)) pa_nil))))))
 (pss_cons (ps_if (pt_not (pt_val (pe_call c_in_ranges.ok (hr.mono (by decide)) rfl c_in_ranges.gm c_in_ranges.kp c_in_ranges.b .nil pass0 (pa_cons (pe_lst (pa_cons (pe_fld (pv 2) rfl) (pa_cons (pe_fld (pv 2) rfl) pa_nil))) (pa_cons (pe_cst rfl T.g_KIND_AND_GAP_RANGES) pa_nil)))))
 (pss_one (ps_ret (pe_lst (pa_cons (pe_cst rfl T.g_OUT_OF_RANGE) pa_nil))))
 pss_nil)
 (pss_cons (ps_if (PW.pt (pw_or (pt_not (pt_val (pe_call c_has_message.ok (hr.mono (by decide)) rfl c_has_message.gm c_has_message.kp c_has_message.b .nil pass0 (pa_cons (pv 0) (pa_cons (pe_fld (pv 2) rfl) pa_nil))))) (pw_or1 (pt_not (pt_val (pe_call c_has_message.ok (hr.mono (by decide)) rfl c_has_message.gm c_has_message.kp c_has_message.b .nil pass0 (pa_cons (pv 0) (pa_cons (pe_fld (pv 2) rfl) pa_nil))))))))
 (pss_one (ps_ret (pe_lst (pa_cons (pe_cst rfl T.g_NO_MESSAGE) pa_nil))))
 pss_nil)
 (pss_cons (ps_if (pt_cmpR op_eq (pe_fld (pv 2) rfl) (pe_fld (pv 2) rfl) (nomark _))
 (pss_one (ps_ret (pe_lst (pa_cons (pe_cst rfl T.g_NO_FIT) pa_nil))))
 pss_nil)
 (pss_cons (ps_if (PW.pt (pw_and (pt_cmpR op_eq (pe_fld (pv 2) rfl) pe_int (nomark _)) (pw_and1 (pt_cmpR op_ne (pe_fld (pe_ix ix_list (pe_fld (pv 0) rfl) (pe_fld (pv 2) rfl) (fun _ _ => rfl)) rfl) (pe_fld (pe_ix ix_list (pe_fld (pv 0) rfl) (pe_fld (pv 2) rfl) (fun _ _ => rfl)) rfl) (nomark _)))))
 (pss_one (ps_ret (pe_lst (pa_cons (pe_cst rfl T.g_UNLIKE_PERIODS) pa_nil))))
 pss_nil)
 (pss_cons (ps_if (pt_cmpR op_eq (pe_callB call_len_seq (by rfl) T.len PySem.boot_len (pa_cons (pe_fld (pv 0) rfl) pa_nil)) (pe_cst rfl T.g_MOST_DEMANDS) (nomark _))
 (pss_one (ps_ret (pe_lst (pa_cons (pe_cst rfl T.g_FULL) pa_nil))))
 pss_nil)
 (pss_cons (ps_expr (pe_bm PySem.F.plainAttrs_list PySem.F.slot_list_append PySem.F.type_list_append mt_append (pe_fld (pv 0) rfl) (pa_cons (pv 2) pa_nil)))
 (pss_one (ps_ret (pe_lst (pa_cons (pe_op op_sub (pe_callB call_len_seq (by rfl) T.len PySem.boot_len (pa_cons (pe_fld (pv 0) rfl) pa_nil)) pe_int) pa_nil))))))))))), ?_⟩
  have D : DeskAt A H a (a :: lm :: ld :: lt :: kvA kv) s := ⟨dx, lm, ld, lt, kv, rfl, h⟩
  obtain ⟨kd, fa, fb, g, rfl⟩ := len4 hl
  refine ⟨_, rfl, ln, _, 0, .int kd, rfl, rfl, SqL.of hn, rfl, _, rfl, ln, _, 1, .int fa, rfl, rfl, SqL.of hn, rfl, _, rfl, ln, _, 2, .int fb, rfl, rfl, SqL.of hn, rfl, _, rfl, ln, _, 3, .int g, rfl, rfl, SqL.of hn, rfl, ?_⟩
  intro x dxm hx hdx ndx
  refine ⟨x, dxm, _, _, _, _, rfl, upd_same, rfl, ?_⟩
  rw [upd_upd]
  have s1 : Same H (upd (upd H dxm (.own x)) x (.ins A.cDemand dxm [(nm "kind", .int kd), (nm "first", .int fa), (nm "second", .int fb), (nm "gap", .int g)])) := (Same.put hdx).new hx
  have gx0 : (upd (upd H dxm (.own x)) x (.ins A.cDemand dxm [(nm "kind", .int kd), (nm "first", .int fa), (nm "second", .int fb), (nm "gap", .int g)])) x = some (.ins A.cDemand dxm [(nm "kind", .int kd), (nm "first", .int fa), (nm "second", .int fb), (nm "gap", .int g)]) := upd_same
  show tSeq _ _ _ _ (upd (upd H dxm (.own x)) x (.ins A.cDemand dxm [(nm "kind", .int kd), (nm "first", .int fa), (nm "second", .int fb), (nm "gap", .int g)]))
  generalize upd (upd H dxm (.own x)) x (.ins A.cDemand dxm [(nm "kind", .int kd), (nm "first", .int fa), (nm "second", .int fb), (nm "gap", .int g)]) = H1 at s1 gx0
  refine ⟨_, rfl, _, _, _, _, _, rfl, gx0, T.clDemand, T.nDemand_kind, rfl, _, rfl, _, _, _, _, _, rfl, gx0, T.clDemand, T.nDemand_gap, rfl, (by show 2 ≤ sizeLine; decide), fun l1 hl1 => ?_⟩
  refine ⟨l1, _, [kd, g], _, rfl, upd_same, T.r_KIND_AND_GAP_RANGES, rfl, fun H2 t2 => ⟨_, rfl, ?_⟩⟩
  have s2 : Same H H2 := s1.trans ((Same.put hl1).trans t2)
  have gx : H2 x = some (.ins A.cDemand dxm [(nm "kind", .int kd), (nm "first", .int fa), (nm "second", .int fb), (nm "gap", .int g)]) := t2 _ _ ((Same.put hl1) _ _ gx0)
  clear t2
  have h2 := h.keep s2
  have g2 := h2.ob
  rw [inAll2]
  refine ite2 (fun q => ?_) (fun q => ?_)
  · exact ⟨(by show 1 ≤ sizeLine; decide), fun p hp => spH_same (ans := [-1]) D k (by rw [call1]; unfold Vbavab.demandCall; rw [if_pos (notF q)]; rfl) (s2.new (s2.free hp)) upd_same (s2.free hp)⟩
  have q := notT q
  have no4 : (Vbavab.isMsg s fa && Vbavab.isMsg s fb) = false → callF 1 s [kd, fa, fb, g] = (s, [-4]) := fun e => by
    rw [call1]; unfold Vbavab.demandCall; rw [if_neg (by rw [q]; decide), if_pos e]; rfl
  refine ⟨_, rfl, _, rfl, _, _, _, _, _, rfl, gx, T.clDemand, T.nDemand_first, rfl, a, dx, lm, ld, lt, kv, s, fa, rfl, h2, _, rfl, ?_⟩
  refine ite2 (fun z => ?_) (fun z => ?_)
  · exact iteT ⟨(by show 1 ≤ sizeLine; decide), fun p hp => spH_same (ans := [-4]) D k (no4 (by rw [notF z]; rfl)) (s2.new (s2.free hp)) upd_same (s2.free hp)⟩
  have z := notT z
  refine ⟨_, rfl, _, rfl, _, _, _, _, _, rfl, gx, T.clDemand, T.nDemand_second, rfl, a, dx, lm, ld, lt, kv, s, fb, rfl, h2, _, rfl, ?_⟩
  refine ite2 (fun z2 => ?_) (fun z2 => ?_)
  · exact ⟨(by show 1 ≤ sizeLine; decide), fun p hp => spH_same (ans := [-4]) D k (no4 (by rw [notF z2, Bool.and_false])) (s2.new (s2.free hp)) upd_same (s2.free hp)⟩
  have z2 := notT z2
  have zz : ¬ (Vbavab.isMsg s fa && Vbavab.isMsg s fb) = false := by rw [z, z2]; decide
  obtain ⟨na, rfl, hna⟩ := isMsg_nat z
  obtain ⟨nb, rfl, hnb⟩ := isMsg_nat z2
  refine ⟨_, rfl, _, _, _, _, _, rfl, gx, T.clDemand, T.nDemand_first, rfl, _, rfl, _, _, _, _, _, rfl, gx, T.clDemand, T.nDemand_second, rfl, rfl, _, rfl, ?_⟩
  refine ite2 (fun y => ?_) (fun y => ?_)
  · have y : (na : Int) = nb := by have e := of_decide_eq_true y; injection e
    exact ⟨(by show 1 ≤ sizeLine; decide), fun p hp => spH_same (ans := [-5]) D k (by rw [call1]; unfold Vbavab.demandCall; rw [if_neg (by rw [q]; decide), if_neg zz, if_pos y]; rfl) (s2.new (s2.free hp)) upd_same (s2.free hp)⟩
  have y : ¬ (na : Int) = nb := fun e => y (decide_eq_true (by rw [e]))
  obtain ⟨ms, hms, hmn, hat⟩ := h2.ms.adr
  obtain ⟨am, dma, ema, gma⟩ := hat na hna
  obtain ⟨bm, dmb, emb, gmb⟩ := hat nb hnb
  have qk : (0 : Int) ≤ kd ∧ kd ≤ 1 ∧ 0 ≤ g ∧ g ≤ 64 := by
    rw [Bool.and_eq_true, inR_iff, inR_iff] at q; omega
  have rest : ¬ (kd = 0 ∧ decide ((gm s.msgs na).period = (gm s.msgs nb).period) = false) →
      tSeq (tIfS (tTest (tOp rEq (tCB (fun xs H Q => ∃ p ys, xs = [.ref p] ∧ (SqL K H p ys ∨ SqT K H p ys) ∧ Q (.int ys.length) H) (tCons (tFld K (tVar 0) "demands") tNil)) (tC (.int 16)))) (tRet (tLst (tCons (tC (.int (-8))) tNil))) tNext)
        (tSeq (tDrop (tBM K "list" rAppend (tFld K (tVar 0) "demands") (tCons (tVar 2) tNil)))
          (tRet (tLst (tCons (tOp (rI0 fun i j => .int (i - j)) (tCB (fun xs H Q => ∃ p ys, xs = [.ref p] ∧ (SqL K H p ys ∨ SqT K H p ys) ∧ Q (.int ys.length) H) (tCons (tFld K (tVar 0) "demands") tNil)) (tC (.int 1))) tNil))))
        { nx := fun _ H' => Q .non H', rt := Q } [some (.ref a), some (.ref ln), some (.ref x)] H2 := fun pr => by
    obtain ⟨as, hds, hdn, hdat⟩ := h2.ds.adr
    have hdl : (as.map V.ref).length = s.demands.length := by rw [List.length_map, hdn]
    refine ⟨_, rfl, _, _, _, _, _, rfl, g2, T.clDesk, T.nDesk_demands, rfl, _, _, rfl, .inl (SqL.of hds), rfl, _, rfl, ?_⟩
    have pr2 : ¬ (kd = 0 ∧ decide ((Vbavab.msgOf s (na : Int).toNat).period = (Vbavab.msgOf s (nb : Int).toNat).period) = false) := by
      rw [Int.toNat_natCast, Int.toNat_natCast]; exact pr
    refine ite2 (fun y3 => ?_) (fun y3 => ?_)
    · have y3 : s.demands.length = 16 := by
        have z := of_decide_eq_true y3
        injection z with z; rw [hdl] at z; omega
      exact ⟨(by show 1 ≤ sizeLine; decide), fun p hp => spH_same (ans := [-8]) D k (by rw [call1]; unfold Vbavab.demandCall; rw [if_neg (by rw [q]; decide), if_neg zz, if_neg y, if_neg pr2, if_pos (by show 16 ≤ _; omega)]; rfl) (s2.new (s2.free hp)) upd_same (s2.free hp)⟩
    have h16 := h.ok.n16
    have y3 : s.demands.length < 16 := by
      have : ¬ s.demands.length = 16 := fun z => y3 (decide_eq_true (by rw [hdl, z]; rfl))
      omega
    obtain ⟨kn, rfl⟩ : ∃ n : Nat, kd = (n : Nat) := ⟨kd.toNat, by omega⟩
    obtain ⟨gn, rfl⟩ : ∃ n : Nat, g = (n : Nat) := ⟨g.toNat, by omega⟩
    have od : OkD s.msgs.length ⟨kn, na, nb, gn⟩ := ⟨hna, hnb, by show na ≠ nb; omega, by show kn ≤ 1; omega, by show gn ≤ 64; omega⟩
    have d3 := h2.addDem (x := x) (d := ⟨kn, na, nb, gn⟩) ⟨dxm, gx⟩ hds od y3
    have f3 : Fr H (upd H2 ld (.lst (as.map V.ref ++ [.ref x]))) (a :: lm :: ld :: lt :: kvA kv) := (Fr.of s2).upd (.inl (by simp))
    refine ⟨_, rfl, _, _, _, _, _, rfl, g2, T.clDesk, T.nDesk_demands, rfl, .inl ⟨rfl, _, SqL.of hds⟩, _, rfl, ld, _, _, rfl, rfl, hds, line_of (by rw [hdl]; omega), ?_⟩
    have g4 := d3.ob
    refine ⟨_, rfl, _, _, _, _, _, rfl, g4, T.clDesk, T.nDesk_demands, rfl, _, _, rfl, .inl (SqL.of upd_same), _, _, rfl, rfl, (by show 1 ≤ sizeLine; decide), fun p hp => ?_⟩
    have ec : callF 1 s [(kn : Int), na, nb, gn] = ({ s with demands := s.demands ++ [⟨kn, na, nb, gn⟩] }, [(s.demands.length : Int)]) := by
      rw [call1]; unfold Vbavab.demandCall
      rw [if_neg (by rw [q]; decide), if_neg zz, if_neg y, if_neg pr2, if_neg (by show ¬ 16 ≤ _; omega)]; rfl
    have el : (((as.map V.ref ++ [V.ref x]).length : Nat) : Int) - 1 = (s.demands.length : Int) := by
      rw [List.length_append, hdl, List.length_singleton]; omega
    refine k _ p _ ?_ ?_ (f3.trans (Fr.of (Same.put hp))) (SubO.refl _ _) (s2.free (uf hp)) (by rw [ec]; exact Nat.le_of_ble_eq_true rfl)
    · rw [ec]; exact ⟨dx, lm, ld, lt, kv, rfl, d3.keep (Same.put hp)⟩
    · rw [ec, upd_same]
      show some (HO.lst [V.int ((((as.map V.ref ++ [V.ref x]).length : Nat) : Int) - 1)]) = _
      rw [el]; rfl
  refine ⟨_, rfl, _, _, _, _, _, rfl, gx, T.clDemand, T.nDemand_kind, rfl, rfl, _, rfl, ?_⟩
  refine ite2 (fun y1 => ?_) (fun y1 => ?_)
  · have y1 : kd = 0 := by have e := of_decide_eq_true y1; injection e
    refine ⟨_, rfl, _, _, _, _, _, rfl, g2, T.clDesk, T.nDesk_messages, rfl, _, rfl, _, _, _, _, _, rfl, gx, T.clDemand, T.nDemand_first, rfl, _, _, _, _, rfl, rfl, SqL.of hms, (at_ref ema), _, _, _, _, _, rfl, gma, T.clMessage, T.nMessage_period, rfl, _, rfl, _, _, _, _, _, rfl, g2, T.clDesk, T.nDesk_messages, rfl, _, rfl, _, _, _, _, _, rfl, gx, T.clDemand, T.nDemand_second, rfl, _, _, _, _, rfl, rfl, SqL.of hms, (at_ref emb), _, _, _, _, _, rfl, gmb, T.clMessage, T.nMessage_period, rfl, rfl, _, rfl, ?_⟩
    have ed : (!decide (V.int ((gm s.msgs na).period : Int) = V.int ((gm s.msgs nb).period : Int))) = !decide ((gm s.msgs na).period = (gm s.msgs nb).period) := congrArg (!·) (decide_eq_decide.mpr ⟨fun z => by injection z with z; omega, fun z => by rw [z]⟩)
    rw [ed]
    refine ite2 (fun y2 => ?_) (fun y2 => ?_)
    · have y2 := notF y2
      exact ⟨(by show 1 ≤ sizeLine; decide), fun p hp => spH_same (ans := [-9]) D k (by rw [call1]; unfold Vbavab.demandCall; rw [if_neg (by rw [q]; decide), if_neg zz, if_neg y, if_pos ⟨y1, by rw [Int.toNat_natCast, Int.toNat_natCast]; exact y2⟩]; rfl) (s2.new (s2.free hp)) upd_same (s2.free hp)⟩
    · have y2 := notT y2
      exact rest (fun o => by rw [y2] at o; exact absurd o.2 (by decide))
  · have y1 : ¬ kd = 0 := fun e => y1 (by rw [e]; rfl)
    exact iteF (rest (fun o => y1 o.1))
theorem ok_answer_check {f : Addr} {fd : FuncData} (F : Fun K "answer_check" "answer_check" s_answer_check f fd) (T : Txt K mg A) (c_table_faults : CalX P w K mg base 5 "table_faults" ["messages", "demands", "table"] (sp_table_faults K A)) : FnOk P w K mg base CX0 6 f fd ["desk", "numbers"] (sp_answer_check K A) := by
  obtain ⟨f_table_faults, fd_table_faults, c_table_faults⟩ := c_table_faults
  have nd := sc_answer_check.nd
  refine F.ok sc_answer_check (fun vs H Q E h => ?_) (fun cdv Ar outer s H vs Q E hr h => ?_)
  · obtain ⟨a, ln, own, s, ns, rfl, ⟨dx, lm, ld, lt, kv, rfl, h⟩, hn, hl, nown, k⟩ := h; rfl
  obtain ⟨a, ln, own, s, ns, rfl, ⟨dx, lm, ld, lt, kv, rfl, h⟩, hn, hl, nown, k⟩ := h
  refine ⟨_, (pss_cons (ps_set (i := 2) nd rfl (Or.inl rfl) (pe_call c_table_faults.ok (hr.mono (by decide)) rfl c_table_faults.gm c_table_faults.kp c_table_faults.b .nil pass0 (pa_cons (pe_fld (pv 0) rfl) (pa_cons (pe_fld (pv 0) rfl) (pa_cons (pe_fld (pv 0) rfl) pa_nil)))))
 (pss_cons (ps_set (i := 3) nd rfl (Or.inl rfl) (pe_lst (pa_cons (pe_callB call_len_seq (by rfl) T.len PySem.boot_len (pa_cons (pv 2) pa_nil)) pa_nil)))
 (pss_cons (ps_for PassesOwn.never rfl (pi_list (pv 2)) (pg_name (i := 4) nd rfl (Or.inl rfl))
 (pss_one (ps_expr (pe_bm PySem.F.plainAttrs_list PySem.F.slot_list_extend PySem.F.type_list_extend mt_extendT (pv 3) (pa_cons (pv 4) pa_nil)))))
 (pss_one (ps_ret (pv 3)))))), ?_⟩
  have h1 := h.ob
  have D : DeskAt A H a (a :: lm :: ld :: lt :: kvA kv) s := ⟨dx, lm, ld, lt, kv, rfl, h⟩
  have e0 : ns = [] := List.eq_nil_of_length_eq_zero hl
  subst e0
  have h8 := h.ok.n8
  have h16 := h.ok.n16
  refine ⟨_, rfl, _, _, _, _, _, rfl, h1, T.clDesk, T.nDesk_messages, rfl, _, rfl, _, _, _, _, _, rfl, h1, T.clDesk, T.nDesk_demands, rfl, _, rfl, _, _, _, _, _, rfl, h1, T.clDesk, T.nDesk_table, rfl, lm, ld, lt, s, s.table, rfl, h.ms, h.ds, h.tb, h.ok, h.tl, fun H1 pw s1 B => ?_⟩
  obtain ⟨as, has, hasn, hrow⟩ := B.ex
  have hlen : (as.map V.ref).length = (Vbavab.wrongs s s.table).length := by rw [List.length_map, hasn, List.length_map]
  have few : (Vbavab.wrongs s s.table).length ≤ 100 := by
    have e := congrArg List.length (wrongs_rows s s.table)
    rw [List.length_map, List.length_append, List.length_append] at e
    have q1 := missR_len s.table s.msgs.length
    have q2 := pairR_len s s.table s.msgs.length s.msgs.length
    have q3 : s.msgs.length * s.msgs.length ≤ 8 * 8 := Nat.mul_le_mul h8 h8
    have q4 := demR_len s s.table s.demands.length
    omega
  refine ⟨_, rfl, _, _, rfl, .inl (SqL.of has), (by show 1 ≤ sizeLine; decide), fun pa hpa => ?_⟩
  have p0 : H pa = none := s1.free hpa
  have npw : pw ≠ pa := ne_of_none has hpa
  refine ⟨_, rfl, pw, rfl, ⟨_, SqL.of ((upd_ne npw).trans has)⟩, ?_⟩
  refine for_list (xs := as.map V.ref) (fun i σ H' => ∃ v4 : Option V, σ = [some (.ref a), some (.ref ln), some (.ref pw), some (.ref pa), v4] ∧ (∀ b u, H1 b = some u → H' b = some u) ∧ H' pa = some (.lst (.int ((Vbavab.wrongs s s.table).length : Nat) :: (((Vbavab.wrongs s s.table).map rowW).take i).flatten.map V.int))) ⟨none, rfl, Same.put hpa, by rw [upd_same, hlen]; rfl⟩ (fun i σ H' _ ⟨_, _, s2, _⟩ => SqL.of (s2 _ _ has)) ?_ ?_
  · rintro i x σ H2 hx ⟨v4, rfl, s2, hq⟩
    have hi : i < ((Vbavab.wrongs s s.table).map rowW).length := by rw [List.length_map, ← hlen]; exact (List.getElem?_eq_some_iff.mp hx).1
    have er : ((Vbavab.wrongs s s.table).map rowW)[i]? = some (((Vbavab.wrongs s s.table).map rowW)[i]) := List.getElem?_eq_getElem hi
    have ea : as[i]? = some (as[i]'(by omega)) := List.getElem?_eq_getElem (by omega)
    have hr0 := hrow i _ _ ea er
    have ex : x = .ref (as[i]'(by omega)) := by rw [List.getElem?_map, ea] at hx; exact (Option.some.inj hx).symm
    subst ex
    have l3 : (((Vbavab.wrongs s s.table).map rowW)[i]).length = 3 := by rw [List.getElem_map]; rfl
    have tk : (((Vbavab.wrongs s s.table).map rowW).take (i + 1)).flatten = (((Vbavab.wrongs s s.table).map rowW).take i).flatten ++ ((Vbavab.wrongs s s.table).map rowW)[i] := by
      rw [List.take_add_one, er, List.flatten_append]
      show _ ++ [_].flatten = _
      rw [List.flatten_singleton]
    have hr2 := s2 _ _ hr0
    have hb : ((((Vbavab.wrongs s s.table).map rowW).take i).flatten).length ≤ 300 := by
      rw [← List.map_take, flat3, List.length_take]; omega
    rw [List.length_map] at hi
    refine ⟨_, rfl, .inl ⟨rfl, _, SqL.of hq⟩, _, rfl, pa, _, _, _, rfl, rfl, hq, hr2, Nat.le_of_lt (line_of ?_), ?_⟩
    · rw [List.length_cons, List.length_map, List.length_map, l3]; omega
    · refine ⟨_, rfl, fun b u e => ?_, ?_⟩
      · rw [upd_ne (ne_of_none e hpa)]; exact s2 b u e
      · rw [upd_same, tk, List.map_append]; rfl
  · rintro σ H2 ⟨v4, rfl, s2, hq⟩
    rw [List.length_map, hasn, List.take_length] at hq
    refine ⟨_, rfl, spH_same (ans := Vbavab.wrongRow (Vbavab.wrongs s s.table)) D k (call4 s) (s1.trans s2) ?_ p0 ?_⟩
    · rw [hq]
      unfold Vbavab.wrongRow
      rw [List.flatMap_def]
      rfl
    · unfold Vbavab.wrongRow
      rw [List.length_cons, List.flatMap_def]
      have z := flat3 (Vbavab.wrongs s s.table)
      have z : ((Vbavab.wrongs s s.table).map fun w => Vbavab.ints [w.1, w.2.1, w.2.2]).flatten.length = _ := z
      omega
end
theorem natV_tab (l : List Nat) : natV l = (tabI (l.map fun x => some x)).map V.int := by
  unfold natV tabI
  rw [List.map_map, List.map_map]; rfl
theorem natV_ints (l : List Nat) : natV l = (Vbavab.ints l).map V.int := by
  unfold natV Vbavab.ints
  rw [List.map_map]; rfl
theorem tabIn_of {s : Plan} {ch : List Nat} (h : InWin s ch) : TabIn { s with table := ch.map fun x => some x } := fun i x e => by
  have e : Vbavab.beginOf (ch.map fun x => some x) i = some x := e
  show x ≤ (gm s.msgs i).late
  unfold Vbavab.beginOf at e
  rw [List.getD_eq_getElem?_getD, List.getElem?_map] at e
  cases q : ch[i]? with
  | none => rw [q] at e; cases e
  | some y =>
    rw [q] at e
    have e : some y = some x := e
    exact (h i x (q.trans e)).2
theorem res_full {s : Plan} {W : WS} {n b : Nat} (hs : W.size = n) (hf : W.chosen.length = n) (he : W.ended = true → W.chosen.length < n) (r : resS s W = Vbavab.searched s n b) : Vbavab.searched s n b = .table W.chosen := by
  have e : W.ended = false := by cases q : W.ended; rfl; have := he q; omega
  rw [← r]
  unfold resS
  rw [e, if_neg Bool.false_ne_true, search_full (by rw [List.length_reverse]; omega), List.reverse_reverse]
theorem res_none {s : Plan} {W : WS} {n b : Nat} (he : W.ended = true) (r : resS s W = Vbavab.searched s n b) : Vbavab.searched s n b = .none := by
  rw [← r]
  unfold resS
  rw [if_pos he]
theorem res_spent {s : Plan} {W : WS} {n b : Nat} (hs : W.size = n) (hf : ¬ W.chosen.length = n) (hl : W.chosen.length ≤ n) (he : W.ended = false) (hb : W.budget = 0) (r : resS s W = Vbavab.searched s n b) : Vbavab.searched s n b = .spent := by
  rw [← r]
  unfold resS
  rw [he, if_neg Bool.false_ne_true, hb]
  show (if W.size ≤ W.chosen.reverse.length then _ else _) = _
  rw [if_neg (by rw [List.length_reverse]; omega)]
section
variable {P : Program} {w : World} {K : PySem.W.Frag} {mg : Str → Option Value} {base : Heap} {A : Adr}
theorem ok_answer_search {f : Addr} {fd : FuncData} (F : Fun K "answer_search" "answer_search" s_answer_search f fd) (T : Txt K mg A) (c_fitting_leads : CalX P w K mg base 6 "fitting_leads" ["messages", "demands"] (sp_fitting_leads K A)) (c_search_table : CalX P w K mg base 5 "search_table" ["messages", "leads", "size", "budget"] (sp_search_table K A)) (c_is_full : MtX P w K mg base 1 A.cWalk "is_full" ["self"] (sp_Walk_is_full K A)) (c_in_ranges : CalX P w K mg base 1 "in_ranges" ["numbers", "ranges"] (sp_in_ranges K A)) (c_as_row : CalX P w K mg base 1 "as_row" ["numbers"] (sp_as_row K A)) : FnOk P w K mg base CX0 7 f fd ["desk", "numbers"] (sp_answer_search K A) := by
  obtain ⟨f_fitting_leads, fd_fitting_leads, c_fitting_leads⟩ := c_fitting_leads
  obtain ⟨f_search_table, fd_search_table, c_search_table⟩ := c_search_table
  obtain ⟨f_is_full, fd_is_full, c_is_full⟩ := c_is_full
  obtain ⟨f_in_ranges, fd_in_ranges, c_in_ranges⟩ := c_in_ranges
  obtain ⟨f_as_row, fd_as_row, c_as_row⟩ := c_as_row
  have nd := sc_answer_search.nd
  refine F.ok sc_answer_search (fun vs H Q E h => ?_) (fun cdv Ar outer s H vs Q E hr h => ?_)
  · obtain ⟨a, ln, own, s, ns, rfl, ⟨dx, lm, ld, lt, kv, rfl, h⟩, hn, hl, nown, k⟩ := h; rfl
  obtain ⟨a, ln, own, s, ns, rfl, ⟨dx, lm, ld, lt, kv, rfl, h⟩, hn, hl, nown, k⟩ := h
  refine ⟨_, (pss_cons (ps_if (pt_not (pt_val (pe_call c_in_ranges.ok (hr.mono (by decide)) rfl c_in_ranges.gm c_in_ranges.kp c_in_ranges.b .nil pass0 (pa_cons (pv 1) (pa_cons (pe_cst rfl T.g_BUDGET_RANGES) pa_nil)))))
 (pss_one (ps_ret (pe_lst (pa_cons (pe_cst rfl T.g_OUT_OF_RANGE) pa_nil))))
 pss_nil)
 (pss_cons (ps_set (i := 2) nd rfl (Or.inl rfl) (pe_call c_fitting_leads.ok (hr.mono (by decide)) rfl c_fitting_leads.gm c_fitting_leads.kp c_fitting_leads.b .nil pass0 (pa_cons (pe_fld (pv 0) rfl) (pa_cons (pe_fld (pv 0) rfl) pa_nil))))
 (pss_cons (ps_set (i := 3) nd rfl (Or.inl rfl) (pe_call c_search_table.ok (hr.mono (by decide)) rfl c_search_table.gm c_search_table.kp c_search_table.b .nil pass0 (pa_cons (pe_fld (pv 0) rfl) (pa_cons (pv 2) (pa_cons (pe_callB call_len_seq (by rfl) T.len PySem.boot_len (pa_cons (pe_fld (pv 0) rfl) pa_nil)) (pa_cons (pe_ix ix_list (pv 1) pe_int (fun _ _ => rfl)) pa_nil))))))
 (pss_cons (ps_if (pt_val (pe_meth0 (pv 3) T.clWalk c_is_full.me c_is_full.ok (hr.mono (by decide)) c_is_full.b .nil pass0))
 (pss_cons (ps_fld (pv 0) (pe_callTy call_list_of (by rfl) T.list boot_list (pa_cons (pe_fld (pv 3) rfl) pa_nil)) rfl)
 (pss_one (ps_ret (pe_call c_as_row.ok (hr.mono (by decide)) rfl c_as_row.gm c_as_row.kp c_as_row.b .nil pass0 (pa_cons (pe_fld (pv 3) rfl) pa_nil)))))
 pss_nil)
 (pss_one (ps_ret (pe_ifExp (pt_val (pe_fld (pv 3) rfl)) (pe_lst (pa_cons (pe_cst rfl T.g_NONE_THERE) pa_nil)) (pe_lst (pa_cons (pe_cst rfl T.g_SPENT) pa_nil))))))))), ?_⟩
  have D : DeskAt A H a (a :: lm :: ld :: lt :: kvA kv) s := ⟨dx, lm, ld, lt, kv, rfl, h⟩
  have h8 := h.ok.n8
  obtain ⟨b, rfl⟩ := len1 hl
  refine ⟨_, rfl, ln, _, _, _, rfl, hn, T.r_BUDGET_RANGES, rfl, fun H1 s1 => ⟨_, rfl, ?_⟩⟩
  rw [inAll1]
  refine ite2 (fun q => ?_) (fun q => ?_)
  · exact ⟨(by show 1 ≤ sizeLine; decide), fun p hp => spH_same (ans := [-1]) D k (by rw [call5]; unfold Vbavab.searchCall Vbavab.isBudget; rw [if_pos (notF q)]; rfl) (s1.new (s1.free hp)) upd_same (s1.free hp)⟩
  have q := notT q
  obtain ⟨bn, rfl⟩ : ∃ n : Nat, b = (n : Nat) := ⟨b.toNat, by have := inR_iff.mp q; omega⟩
  have h2 := h.keep s1
  have g2 := h2.ob
  refine ⟨_, rfl, _, _, _, _, _, rfl, g2, T.clDesk, T.nDesk_messages, rfl, _, rfl, _, _, _, _, _, rfl, g2, T.clDesk, T.nDesk_demands, rfl, lm, ld, s, rfl, h2.ms, h2.ds, h.ok, fun H2 ll s2 L => ?_⟩
  have s2 : Same H H2 := s1.trans s2
  have h3 := h.keep s2
  have g3 := h3.ob
  obtain ⟨ms, hms, hmn, hat⟩ := h3.ms.adr
  have hml : (ms.map V.ref).length = s.msgs.length := by rw [List.length_map, hmn]
  refine ⟨_, rfl, _, _, _, _, _, rfl, g3, T.clDesk, T.nDesk_messages, rfl, _, rfl, _, rfl, _, _, _, _, _, rfl, g3, T.clDesk, T.nDesk_messages, rfl, _, _, rfl, .inl (SqL.of hms), _, rfl, ln, _, 0, .int bn, rfl, rfl, SqL.of (s2 _ _ hn), rfl, s, lm, ll, s.msgs.length, bn, by rw [hml]; rfl, ⟨h3.ms, L, h.ok⟩, Nat.le_refl _, fun H3 x W wa e1 e2 e3 e4 e5 e6 => ?_⟩
  obtain ⟨dw, lc, lr, wp⟩ := wa
  have s3 : Same H H3 := s2.trans wp.same
  have h4 := h.keep s3
  have g4 := h4.ob
  have w1 := wp.ob
  have ec : callF 5 s [(bn : Int)] = (match Vbavab.searched s s.msgs.length bn with
      | .spent => Vbavab.no s 10
      | .none => Vbavab.no s 6
      | .table l => ({ s with table := l.map fun x => some x }, Vbavab.row l)) := by
    rw [call5]; unfold Vbavab.searchCall Vbavab.isBudget
    rw [if_neg (by rw [q]; decide), Int.toNat_natCast]
    cases Vbavab.searched s s.msgs.length bn <;> rfl
  refine ⟨_, rfl, x, dw, _, rfl, w1, rfl, lm, ll, H2, x, W, rfl, ⟨dw, lc, lr, wp⟩, _, rfl, ?_⟩
  refine ite2 (fun hf => ?_) (fun hf => ?_)
  · have hf := of_decide_eq_true hf
    have r := res_full e1 (by omega) e4 e3
    rw [r] at ec
    refine ⟨_, rfl, _, _, _, _, _, rfl, w1, T.clWalk, T.nWalk_chosen, rfl, _, _, rfl, .inl (SqL.of wp.ch), fun l hl => ?_⟩
    have na : a ≠ l := ne_of_none g4 hl
    refine ⟨_, rfl, a, _, dx, _, rfl, (upd_ne na).trans g4, T.clDesk, T.nDesk_table, Nat.le_of_ble_eq_true rfl, ?_⟩
    have d5 := h4.newTab hl (W.chosen.map fun x => some x) (by rw [List.length_map]; omega) (tabIn_of e6)
    rw [← natV_tab] at d5
    have f5 : Fr H (upd (upd H3 l (.lst (natV W.chosen))) a (.ins A.cDesk dx (deskF lm ld l kv))) (a :: lm :: ld :: lt :: kvA kv) := ((Fr.of s3).upd (.inr (s3.free hl))).upd (.inl (by simp))
    have nxa : x ≠ a := (ne_of_none h3.ob wp.a0).symm
    have ncl : lc ≠ l := ne_of_none wp.ch hl
    have nca : lc ≠ a := (ne_of_none h3.ob wp.c0).symm
    have nxl : x ≠ l := ne_of_none w1 hl
    have w5 : (upd (upd H3 l (.lst (natV W.chosen))) a (.ins A.cDesk dx (deskF lm ld l kv))) x = some (.ins A.cWalk dw (walkF lm ll lc lr W)) := by rw [upd_ne nxa, upd_ne nxl]; exact w1
    have c5 : (upd (upd H3 l (.lst (natV W.chosen))) a (.ins A.cDesk dx (deskF lm ld l kv))) lc = some (.lst (natV W.chosen)) := by rw [upd_ne nca, upd_ne ncl]; exact wp.ch
    refine ⟨_, rfl, _, _, _, _, _, rfl, w5, T.clWalk, T.nWalk_chosen, rfl, lc, natV W.chosen, rfl, c5, by rw [natV_len]; omega, fun H6 p s6 hp0 hp => ?_⟩
    refine k H6 p (a :: lm :: ld :: l :: kvA kv) ?_ ?_ (f5.trans (Fr.of s6)) (fun y hy => ?_) (s3.free (uf (uf hp0))) ?_
    · rw [ec]; exact ⟨dx, lm, ld, l, kv, rfl, d5.keep s6⟩
    · rw [ec, hp, natV_len, natV_ints]; rfl
    · rcases List.mem_cons.mp hy with q | hy
      · exact .inl (by rw [q]; simp)
      rcases List.mem_cons.mp hy with q | hy
      · exact .inl (by rw [q]; simp)
      rcases List.mem_cons.mp hy with q | hy
      · exact .inl (by rw [q]; simp)
      rcases List.mem_cons.mp hy with q | hy
      · exact .inr (by rw [q]; exact s3.free hl)
      · exact .inl (by simp [hy])
    · rw [ec]
      show (Vbavab.row W.chosen).length ≤ 1000
      unfold Vbavab.row Vbavab.ints
      rw [List.length_cons, List.length_map]; omega
  have hf : ¬ W.chosen.length = s.msgs.length := fun z => hf (decide_eq_true (by omega))
  refine ⟨_, rfl, _, _, _, _, _, rfl, w1, T.clWalk, T.nWalk_ended, rfl, _, rfl, ?_⟩
  cases hend : W.ended with
  | true =>
    have r := res_none hend e3
    rw [r] at ec
    exact ⟨(by show 1 ≤ sizeLine; decide), fun p hp => spH_same (ans := [-6]) D k ec (s3.new (s3.free hp)) upd_same (s3.free hp)⟩
  | false =>
    have r := res_spent e1 hf e2 hend (by rcases e5 with z | z | z; exact absurd z hf; rw [hend] at z; cases z; exact z) e3
    rw [r] at ec
    exact ⟨(by show 1 ≤ sizeLine; decide), fun p hp => spH_same (ans := [-10]) D k ec (s3.new (s3.free hp)) upd_same (s3.free hp)⟩
theorem ok_answer_count {f : Addr} {fd : FuncData} (F : Fun K "answer_count" "answer_count" s_answer_count f fd) (T : Txt K mg A) (c_fitting_leads : CalX P w K mg base 6 "fitting_leads" ["messages", "demands"] (sp_fitting_leads K A)) (c_count_tables : CalX P w K mg base 5 "count_tables" ["messages", "leads", "size", "budget"] (sp_count_tables K A)) (c_in_ranges : CalX P w K mg base 1 "in_ranges" ["numbers", "ranges"] (sp_in_ranges K A)) : FnOk P w K mg base CX0 7 f fd ["desk", "numbers"] (sp_answer_count K A) := by
  obtain ⟨f_fitting_leads, fd_fitting_leads, c_fitting_leads⟩ := c_fitting_leads
  obtain ⟨f_count_tables, fd_count_tables, c_count_tables⟩ := c_count_tables
  obtain ⟨f_in_ranges, fd_in_ranges, c_in_ranges⟩ := c_in_ranges
  have nd := sc_answer_count.nd
  refine F.ok sc_answer_count (fun vs H Q E h => ?_) (fun cdv Ar outer s H vs Q E hr h => ?_)
  · obtain ⟨a, ln, own, s, ns, rfl, ⟨dx, lm, ld, lt, kv, rfl, h⟩, hn, hl, nown, k⟩ := h; rfl
  obtain ⟨a, ln, own, s, ns, rfl, ⟨dx, lm, ld, lt, kv, rfl, h⟩, hn, hl, nown, k⟩ := h
  refine ⟨_, (pss_cons (ps_if (pt_not (pt_val (pe_call c_in_ranges.ok (hr.mono (by decide)) rfl c_in_ranges.gm c_in_ranges.kp c_in_ranges.b .nil pass0 (pa_cons (pv 1) (pa_cons (pe_cst rfl T.g_BUDGET_RANGES) pa_nil)))))
 (pss_one (ps_ret (pe_lst (pa_cons (pe_cst rfl T.g_OUT_OF_RANGE) pa_nil))))
 pss_nil)
 (pss_cons (ps_set (i := 2) nd rfl (Or.inl rfl) (pe_call c_fitting_leads.ok (hr.mono (by decide)) rfl c_fitting_leads.gm c_fitting_leads.kp c_fitting_leads.b .nil pass0 (pa_cons (pe_fld (pv 0) rfl) (pa_cons (pe_fld (pv 0) rfl) pa_nil))))
 (pss_cons (ps_set (i := 3) nd rfl (Or.inl rfl) (pe_call c_count_tables.ok (hr.mono (by decide)) rfl c_count_tables.gm c_count_tables.kp c_count_tables.b .nil pass0 (pa_cons (pe_fld (pv 0) rfl) (pa_cons (pv 2) (pa_cons (pe_callB call_len_seq (by rfl) T.len PySem.boot_len (pa_cons (pe_fld (pv 0) rfl) pa_nil)) (pa_cons (pe_ix ix_list (pv 1) pe_int (fun _ _ => rfl)) pa_nil))))))
 (pss_one (ps_ret (pe_ifExp (pt_val (pe_fld (pv 3) rfl)) (pe_lst (pa_cons (pe_fld (pv 3) rfl) pa_nil)) (pe_lst (pa_cons (pe_cst rfl T.g_SPENT) pa_nil)))))))), ?_⟩
  have D : DeskAt A H a (a :: lm :: ld :: lt :: kvA kv) s := ⟨dx, lm, ld, lt, kv, rfl, h⟩
  have h8 := h.ok.n8
  obtain ⟨b, rfl⟩ := len1 hl
  refine ⟨_, rfl, ln, _, _, _, rfl, hn, T.r_BUDGET_RANGES, rfl, fun H1 s1 => ⟨_, rfl, ?_⟩⟩
  rw [inAll1]
  refine ite2 (fun q => ?_) (fun q => ?_)
  · exact ⟨(by show 1 ≤ sizeLine; decide), fun p hp => spH_same (ans := [-1]) D k (by rw [call6]; unfold Vbavab.countCall Vbavab.isBudget; rw [if_pos (notF q)]; rfl) (s1.new (s1.free hp)) upd_same (s1.free hp)⟩
  have q := notT q
  obtain ⟨bn, rfl⟩ : ∃ n : Nat, b = (n : Nat) := ⟨b.toNat, by have := inR_iff.mp q; omega⟩
  have h2 := h.keep s1
  have g2 := h2.ob
  refine ⟨_, rfl, _, _, _, _, _, rfl, g2, T.clDesk, T.nDesk_messages, rfl, _, rfl, _, _, _, _, _, rfl, g2, T.clDesk, T.nDesk_demands, rfl, lm, ld, s, rfl, h2.ms, h2.ds, h.ok, fun H2 ll s2 L => ?_⟩
  have s2 : Same H H2 := s1.trans s2
  have h3 := h.keep s2
  have g3 := h3.ob
  obtain ⟨ms, hms, hmn, hat⟩ := h3.ms.adr
  have hml : (ms.map V.ref).length = s.msgs.length := by rw [List.length_map, hmn]
  refine ⟨_, rfl, _, _, _, _, _, rfl, g3, T.clDesk, T.nDesk_messages, rfl, _, rfl, _, rfl, _, _, _, _, _, rfl, g3, T.clDesk, T.nDesk_messages, rfl, _, _, rfl, .inl (SqL.of hms), _, rfl, ln, _, 0, .int bn, rfl, rfl, SqL.of (s2 _ _ hn), rfl, s, lm, ll, s.msgs.length, bn, by rw [hml]; rfl, ⟨h3.ms, L, h.ok⟩, Nat.le_refl _, fun H3 x W wa e1 e2 => ?_⟩
  obtain ⟨dw, lc, lr, wp⟩ := wa
  have s3 : Same H H3 := s2.trans wp.same
  have w1 := wp.ob
  have ec : callF 6 s [(bn : Int)] = (match resC s W with
      | none => Vbavab.no s 10
      | some n => (s, [Int.ofNat n])) := by
    rw [call6, e1]; unfold Vbavab.countCall Vbavab.isBudget
    rw [if_neg (by rw [q]; decide), Int.toNat_natCast]; rfl
  refine ⟨_, rfl, _, _, _, _, _, rfl, w1, T.clWalk, T.nWalk_ended, rfl, _, rfl, ?_⟩
  cases hend : W.ended with
  | true =>
    have r : resC s W = some W.tables := by unfold resC; rw [if_pos hend]
    rw [r] at ec
    exact ⟨_, rfl, _, _, _, _, _, rfl, w1, T.clWalk, T.nWalk_tables, rfl, (by show 1 ≤ sizeLine; decide), fun p hp => spH_same (ans := [(W.tables : Int)]) D k ec (s3.new (s3.free hp)) upd_same (s3.free hp)⟩
  | false =>
    have z : W.budget = 0 := by rcases e2 with z | z; rw [hend] at z; cases z; exact z
    have r : resC s W = none := by unfold resC; rw [hend, if_neg Bool.false_ne_true, z]; rfl
    rw [r] at ec
    exact ⟨(by show 1 ≤ sizeLine; decide), fun p hp => spH_same (ans := [-10]) D k ec (s3.new (s3.free hp)) upd_same (s3.free hp)⟩
theorem ok_answer_blame {f : Addr} {fd : FuncData} (F : Fun K "answer_blame" "answer_blame" s_answer_blame f fd) (T : Txt K mg A) (c_fitting_leads : CalX P w K mg base 6 "fitting_leads" ["messages", "demands"] (sp_fitting_leads K A)) (c_in_ranges : CalX P w K mg base 1 "in_ranges" ["numbers", "ranges"] (sp_in_ranges K A)) (c_search_table : CalX P w K mg base 5 "search_table" ["messages", "leads", "size", "budget"] (sp_search_table K A)) (c_is_full : MtX P w K mg base 1 A.cWalk "is_full" ["self"] (sp_Walk_is_full K A)) : FnOk P w K mg base CX0 7 f fd ["desk", "numbers"] (sp_answer_blame K A) := by
  obtain ⟨f_fitting_leads, fd_fitting_leads, c_fitting_leads⟩ := c_fitting_leads
  obtain ⟨f_in_ranges, fd_in_ranges, c_in_ranges⟩ := c_in_ranges
  obtain ⟨f_search_table, fd_search_table, c_search_table⟩ := c_search_table
  obtain ⟨f_is_full, fd_is_full, c_is_full⟩ := c_is_full
  have nd := sc_answer_blame.nd
  refine F.ok sc_answer_blame (fun vs H Q E h => ?_) (fun cdv Ar outer s H vs Q E hr h => ?_)
  · obtain ⟨a, ln, own, s, ns, rfl, ⟨dx, lm, ld, lt, kv, rfl, h⟩, hn, hl, nown, k⟩ := h; rfl
  obtain ⟨a, ln, own, s, ns, rfl, ⟨dx, lm, ld, lt, kv, rfl, h⟩, hn, hl, nown, k⟩ := h
  refine ⟨_, (pss_cons (ps_if (pt_not (pt_val (pe_call c_in_ranges.ok (hr.mono (by decide)) rfl c_in_ranges.gm c_in_ranges.kp c_in_ranges.b .nil pass0 (pa_cons (pv 1) (pa_cons (pe_cst rfl T.g_BUDGET_RANGES) pa_nil)))))
 (pss_one (ps_ret (pe_lst (pa_cons (pe_cst rfl T.g_OUT_OF_RANGE) pa_nil))))
 pss_nil)
 (pss_cons (ps_set (i := 2) nd rfl (Or.inl rfl) (pe_call c_fitting_leads.ok (hr.mono (by decide)) rfl c_fitting_leads.gm c_fitting_leads.kp c_fitting_leads.b .nil pass0 (pa_cons (pe_fld (pv 0) rfl) (pa_cons (pe_fld (pv 0) rfl) pa_nil))))
 (pss_cons (ps_for PassesOwn.never rfl (pi_range2 rfl T.range (pa_cons pe_int (pa_cons (pe_op op_add (pe_callB call_len_seq (by rfl) T.len PySem.boot_len (pa_cons (pe_fld (pv 0) rfl) pa_nil)) pe_int) pa_nil))) (pg_name (i := 3) nd rfl (Or.inl rfl))
 (pss_cons (ps_set (i := 4) nd rfl (Or.inl rfl) (pe_call c_search_table.ok (hr.mono (by decide)) rfl c_search_table.gm c_search_table.kp c_search_table.b .nil pass0 (pa_cons (pe_fld (pv 0) rfl) (pa_cons (pv 2) (pa_cons (pv 3) (pa_cons (pe_ix ix_list (pv 1) pe_int (fun _ _ => rfl)) pa_nil))))))
 (pss_one (ps_if (pt_not (pt_val (pe_meth0 (pv 4) T.clWalk c_is_full.me c_is_full.ok (hr.mono (by decide)) c_is_full.b .nil pass0)))
 (pss_one (ps_ret (pe_ifExp (pt_val (pe_fld (pv 4) rfl)) (pe_lst (pa_cons (pv 3) pa_nil)) (pe_lst (pa_cons (pe_cst rfl T.g_SPENT) pa_nil)))))
 pss_nil))))
 (pss_one (ps_ret (pe_lst (pa_cons pe_int pa_nil))))))), ?_⟩
  have D : DeskAt A H a (a :: lm :: ld :: lt :: kvA kv) s := ⟨dx, lm, ld, lt, kv, rfl, h⟩
  have h8 := h.ok.n8
  obtain ⟨b, rfl⟩ := len1 hl
  refine ⟨_, rfl, ln, _, _, _, rfl, hn, T.r_BUDGET_RANGES, rfl, fun H1 s1 => ⟨_, rfl, ?_⟩⟩
  rw [inAll1]
  refine ite2 (fun q => ?_) (fun q => ?_)
  · exact ⟨(by show 1 ≤ sizeLine; decide), fun p hp => spH_same (ans := [-1]) D k (by rw [call7]; unfold Vbavab.blameCall Vbavab.isBudget; rw [if_pos (notF q)]; rfl) (s1.new (s1.free hp)) upd_same (s1.free hp)⟩
  have q := notT q
  obtain ⟨bn, rfl⟩ : ∃ n : Nat, b = (n : Nat) := ⟨b.toNat, by have := inR_iff.mp q; omega⟩
  have h2 := h.keep s1
  have g2 := h2.ob
  refine ⟨_, rfl, _, _, _, _, _, rfl, g2, T.clDesk, T.nDesk_messages, rfl, _, rfl, _, _, _, _, _, rfl, g2, T.clDesk, T.nDesk_demands, rfl, lm, ld, s, rfl, h2.ms, h2.ds, h.ok, fun H2 ll s2 L => ?_⟩
  have s2 : Same H H2 := s1.trans s2
  have h3 := h.keep s2
  have g3 := h3.ob
  obtain ⟨ms, hms, hmn, hat⟩ := h3.ms.adr
  have hml : (ms.map V.ref).length = s.msgs.length := by rw [List.length_map, hmn]
  have ec : callF 7 s [(bn : Int)] = (match Vbavab.blameFrom s bn s.msgs.length 1 with
      | none => Vbavab.no s 10
      | some none => (s, [0])
      | some (some n) => (s, [Int.ofNat n])) := by
    rw [call7]; unfold Vbavab.blameCall Vbavab.isBudget
    rw [if_neg (by rw [q]; decide), Int.toNat_natCast]
    cases Vbavab.blameFrom s bn s.msgs.length 1 with
    | none => rfl
    | some o => cases o <;> rfl
  refine ⟨_, rfl, _, _, _, _, _, rfl, g3, T.clDesk, T.nDesk_messages, rfl, _, _, rfl, .inl (SqL.of hms), _, _, rfl, rfl, _, _, rfl, ⟨by omega, by omega, by rw [hml]; omega, by rw [hml]; omega⟩, ?_⟩
  rw [show ((((ms.map V.ref).length : Nat) : Int) + 1 - 1).toNat = s.msgs.length by rw [hml]; omega]
  refine for_range (fun i σ H' => ∃ v3 v4 : Option V, σ = [some (.ref a), some (.ref ln), some (.ref ll), v3, v4] ∧ Same H2 H' ∧ i ≤ s.msgs.length ∧ Vbavab.blameFrom s bn s.msgs.length 1 = Vbavab.blameFrom s bn (s.msgs.length - i) (1 + i)) ⟨none, none, rfl, Same.refl _, Nat.zero_le _, rfl⟩ ?_ ?_
  · rintro i σ H3 hi ⟨v3, v4, rfl, s3, hle, hb⟩
    rw [show (1 : Int) + (i : Nat) = ((1 + i : Nat) : Int) by omega]
    have sH : Same H H3 := s2.trans s3
    have h4 := h.keep sH
    have g4 := h4.ob
    obtain ⟨f, ef⟩ : ∃ f, s.msgs.length - i = f + 1 := ⟨s.msgs.length - i - 1, by omega⟩
    rw [ef] at hb
    have hb : Vbavab.blameFrom s bn s.msgs.length 1 = (match Vbavab.searched s (1 + i) bn with
      | .table _ => Vbavab.blameFrom s bn f (1 + i + 1)
      | .none => some (some (1 + i))
      | .spent => none) := hb
    refine ⟨_, rfl, _, _, _, _, _, rfl, g4, T.clDesk, T.nDesk_messages, rfl, _, rfl, _, rfl, _, rfl, ln, _, 0, .int bn, rfl, rfl, SqL.of (sH _ _ hn), rfl, s, lm, ll, 1 + i, bn, rfl, ⟨h4.ms, L.keep s3, h.ok⟩, by omega, fun H4 x W wa e1 e2 e3 e4 e5 _ => ?_⟩
    obtain ⟨dw, lc, lr, wp⟩ := wa
    have s4 : Same H H4 := sH.trans wp.same
    have w1 := wp.ob
    refine ⟨_, rfl, x, dw, _, rfl, w1, rfl, lm, ll, H3, x, W, rfl, ⟨dw, lc, lr, wp⟩, _, rfl, ?_⟩
    refine ite2 (fun hf => ?_) (fun hf => ?_)
    · have hf : ¬ W.chosen.length = 1 + i := by
        have z := of_decide_eq_false (notF hf); omega
      refine ⟨_, rfl, _, _, _, _, _, rfl, w1, T.clWalk, T.nWalk_ended, rfl, _, rfl, ?_⟩
      cases hend : W.ended with
      | true =>
        rw [res_none hend e3] at hb
        rw [hb] at ec
        exact ⟨_, rfl, (by show 1 ≤ sizeLine; decide), fun p hp => spH_same (ans := [((1 + i : Nat) : Int)]) D k ec (s4.new (s4.free hp)) upd_same (s4.free hp)⟩
      | false =>
        rw [res_spent e1 hf e2 hend (by rcases e5 with z | z | z; exact absurd z hf; rw [hend] at z; cases z; exact z) e3] at hb
        rw [hb] at ec
        exact ⟨(by show 1 ≤ sizeLine; decide), fun p hp => spH_same (ans := [-10]) D k ec (s4.new (s4.free hp)) upd_same (s4.free hp)⟩
    · have hf : W.chosen.length = 1 + i := by
        have z := of_decide_eq_true (notT hf); omega
      rw [res_full e1 hf e4 e3] at hb
      refine ⟨_, _, rfl, s3.trans wp.same, by omega, ?_⟩
      rw [hb, show s.msgs.length - (i + 1) = f by omega, show 1 + (i + 1) = 1 + i + 1 by omega]
  · rintro σ H3 ⟨v3, v4, rfl, s3, hle, hb⟩
    rw [Nat.sub_self] at hb
    rw [hb] at ec
    have sH : Same H H3 := s2.trans s3
    exact ⟨(by show 1 ≤ sizeLine; decide), fun p hp => spH_same (ans := [0]) D k ec (sH.new (sH.free hp)) upd_same (sH.free hp)⟩
end
def sp_goes_on (K : PySem.W.Frag) (A : Adr) : Sp := fun vs H Q _ => ∃ (a : Addr) (m : Msg) (bus : Nat), vs = [.ref a, .int bus] ∧ MsgAt A H a m ∧ Q (.bl (Vbavab.onBus m bus)) H
def sp_put_on_bus (K : PySem.W.Frag) (A : Adr) : Sp := fun vs H Q _ => ∃ (lm lt : Addr) (s : Plan) (bus : Nat), vs = [.ref lm, .ref lt, .int bus] ∧ MsgsAt A H lm s.msgs ∧ H lt = some (.lst ((tabI s.table).map V.int)) ∧ OkP s ∧ s.table.length = s.msgs.length ∧
  ∀ (H' : Hp) (p : Addr), Same H H' → H p = none → H' p = some (.lst (natV (putOn s bus s.msgs.length))) → Q (.ref p) H'
def optV : Option Nat → V
  | none => .non
  | some i => .int i
def sp_message_at (K : PySem.W.Frag) (A : Adr) : Sp := fun vs H Q _ => ∃ (lm lt : Addr) (s : Plan) (bus time : Nat), vs = [.ref lm, .ref lt, .int bus, .int time] ∧ MsgsAt A H lm s.msgs ∧ H lt = some (.lst ((tabI s.table).map V.int)) ∧ OkP s ∧ s.table.length = s.msgs.length ∧
  ∀ (H' : Hp), Same H H' → Q (optV (Vbavab.onAt s bus time)) H'
def sp_next_message (K : PySem.W.Frag) (A : Adr) : Sp := fun vs H Q _ => ∃ (lm lt : Addr) (s : Plan) (bus time : Nat), vs = [.ref lm, .ref lt, .int bus, .int time] ∧ MsgsAt A H lm s.msgs ∧ H lt = some (.lst ((tabI s.table).map V.int)) ∧ OkP s ∧ s.table.length = s.msgs.length ∧
  ∀ (H' : Hp), Same H H' → (leastW s time (putOn s bus s.msgs.length) = none → Q .non H') ∧ ∀ j p, leastW s time (putOn s bus s.msgs.length) = some j → H p = none → H' p = some (.lst [.int (j : Nat), .int ((time : Int) + waitI s time j)]) → Q (.ref p) H'
def sp_round_length (K : PySem.W.Frag) (A : Adr) : Sp := fun vs H Q _ => ∃ (l : Addr) (ms : List Msg), vs = [.ref l] ∧ MsgsAt A H l ms ∧ (∀ m ∈ ms, OkM m) ∧ Q (.int (Vbavab.roundOf ms : Nat)) H
def sp_longest_wait (K : PySem.W.Frag) (A : Adr) : Sp := fun vs H Q _ => ∃ (a b : Addr) (lead : Int) (m n : Msg), vs = [.ref a, .ref b, .int lead] ∧ MsgAt A H a m ∧ MsgAt A H b n ∧ OkM m ∧ OkM n ∧
  Q (.int ((n.period : Int) - (Nat.gcd m.period n.period : Nat) + (lead - (m.len : Int)) % ((Nat.gcd m.period n.period : Nat) : Int))) H
theorem bit_on (b bus : Nat) : decide (V.int (Builtin.bitAnd ((b : Int) / 2 ^ ((bus : Nat) : Int).toNat) 1) = V.int 1) = b.testBit bus := by
  have z1 : Builtin.bitAnd ((b : Int) / 2 ^ ((bus : Nat) : Int).toNat) 1 = (((b >>> bus) &&& 1 : Nat) : Int) := by
    rw [Int.toNat_natCast, shr_nat]
    exact and_nat _ 1
  rw [z1]
  have e : decide (V.int (((b >>> bus &&& 1 : Nat)) : Int) = V.int 1) = decide ((b >>> bus) &&& 1 = 1) := decide_eq_decide.mpr ⟨fun z => by injection z with z; omega, fun z => by rw [z]; rfl⟩
  rw [e, Nat.testBit, Nat.and_one_is_mod, Nat.one_and_eq_mod_two]
  have : b >>> bus % 2 = 0 ∨ b >>> bus % 2 = 1 := by omega
  rcases this with q | q <;> rw [q] <;> rfl
theorem ne_put (o : Option Nat) : (!decide (V.int (slotI o) = V.int (-1))) = o.isSome := by
  have q : decide (V.int (slotI o) = V.int (-1)) = decide (slotI o = -1) := decide_eq_decide.mpr ⟨fun z => by injection z, fun z => by rw [z]⟩
  rw [q, slotI_put, Bool.not_not]
theorem putOn_len (s : Plan) (bus n : Nat) : (putOn s bus n).length ≤ n := by
  unfold putOn
  exact Nat.le_trans (List.length_filter_le ..) (by rw [List.length_range]; exact Nat.le_refl _)
section
variable {P : Program} {w : World} {K : PySem.W.Frag} {mg : Str → Option Value} {base : Heap} {A : Adr}
theorem ok_goes_on {f : Addr} {fd : FuncData} (F : Fun K "goes_on" "goes_on" s_goes_on f fd) (T : Txt K mg A) : FnOk P w K mg base CX0 1 f fd ["message", "bus"] (sp_goes_on K A) := by
  have nd := sc_goes_on.nd
  refine F.ok sc_goes_on (fun vs H Q E h => ?_) (fun cdv Ar outer s H vs Q E hr h => ?_)
  · obtain ⟨a, m, bus, rfl, ⟨dx, h1⟩, k⟩ := h; rfl
  obtain ⟨a, m, bus, rfl, ⟨dx, h1⟩, k⟩ := h
  refine ⟨_, (pss_one (ps_ret (pe_cmpR op_eq (pe_op op_and (pe_op op_shr (pe_fld (pv 0) rfl) (pv 1)) pe_int) pe_int (nomark _)))), ?_⟩
  refine ⟨_, rfl, _, _, _, _, _, rfl, h1, T.clMessage, T.nMessage_buses, rfl, _, rfl, _, _, rfl, rfl, by omega, _, _, rfl, rfl, rfl, ?_⟩
  rw [bit_on]
  exact k
theorem ok_put_on_bus {f : Addr} {fd : FuncData} (F : Fun K "put_on_bus" "put_on_bus" s_put_on_bus f fd) (T : Txt K mg A) (c_goes_on : CalX P w K mg base 1 "goes_on" ["message", "bus"] (sp_goes_on K A)) : FnOk P w K mg base CX0 2 f fd ["messages", "table", "bus"] (sp_put_on_bus K A) := by
  obtain ⟨f_goes_on, fd_goes_on, c_goes_on⟩ := c_goes_on
  have nd := sc_put_on_bus.nd
  refine F.ok sc_put_on_bus (fun vs H Q E h => ?_) (fun cdv Ar outer s H vs Q E hr h => ?_)
  · obtain ⟨lm, lt, s, bus, rfl, hm, hl, o, ht, k⟩ := h; rfl
  obtain ⟨lm, lt, s, bus, rfl, hm, hl, o, ht, k⟩ := h
  refine ⟨_, (pss_cons (ps_set (i := 3) nd rfl (Or.inl rfl) (pe_lst pa_nil))
 (pss_cons (ps_for PassesOwn.never rfl (pi_enum rfl T.enumerate (pa_cons (pv 0) pa_nil)) (pg_tup rfl (pgs_cons (pg_name (i := 4) nd rfl (Or.inl rfl)) (pgs_cons (pg_name (i := 5) nd rfl (Or.inl rfl)) pgs_nil)))
 (pss_one (ps_if (PW.pt (pw_and (pt_cmpR op_ne (pe_ix ix_list (pv 1) (pv 4) (fun _ _ => rfl)) (pe_cst rfl T.g_NOT_PUT) (nomark _)) (pw_and1 (pt_val (pe_call c_goes_on.ok (hr.mono (by decide)) rfl c_goes_on.gm c_goes_on.kp c_goes_on.b .nil pass0 (pa_cons (pv 5) (pa_cons (pv 2) pa_nil)))))))
 (pss_one (ps_expr (pe_bm PySem.F.plainAttrs_list PySem.F.slot_list_append PySem.F.type_list_append mt_append (pv 3) (pa_cons (pv 4) pa_nil))))
 pss_nil)))
 (pss_one (ps_ret (pv 3))))), ?_⟩
  have h8 := o.n8
  obtain ⟨as, hms, hmn, hat⟩ := hm.adr
  have hlen : (as.map V.ref).length = s.msgs.length := by rw [List.length_map, hmn]
  refine ⟨Nat.zero_le _, fun p hp => ?_⟩
  refine ⟨_, rfl, _, _, rfl, SqL.of ((Same.put hp) _ _ hms), ?_⟩
  refine for_enum (xs := as.map V.ref) (fun i σ H' => ∃ v4 v5 : Option V, σ = [some (.ref lm), some (.ref lt), some (.int bus), some (.ref p), v4, v5] ∧ Same H H' ∧ H' p = some (.lst (natV (putOn s bus i)))) ⟨none, none, rfl, Same.put hp, upd_same⟩ (fun i σ H' _ ⟨_, _, _, s1, _⟩ => SqL.of (s1 _ _ hms)) ?_ ?_
  · rintro i x σ H1 u0 hx hu0 ⟨v4, v5, rfl, s1, B⟩
    have hi : i < s.msgs.length := by rw [← hlen]; exact (List.getElem?_eq_some_iff.mp hx).1
    obtain ⟨a, dx, ea, g0⟩ := hat i hi
    have ex : x = .ref a := by rw [List.getElem?_map, ea] at hx; exact (Option.some.inj hx).symm
    subst ex
    refine ⟨u0, _, rfl, SqT.of upd_same, rfl, _, _, rfl, _, _, rfl, rfl, ?_⟩
    have s2 : Same H (upd H1 u0 (.tup [.int (i : Nat), .ref a])) := s1.new (s1.free hu0)
    have B2 := (Same.put (o := .tup [.int (i : Nat), .ref a]) hu0) _ _ B
    generalize upd H1 u0 (.tup [.int (i : Nat), .ref a]) = H2 at s2 B2
    have hl2 := s2 _ _ hl
    have e1 := putOn_succ s bus i
    refine ⟨_, rfl, _, rfl, _, _, _, _, rfl, rfl, SqL.of hl2, (at_int (tabI_at (by rw [ht]; exact hi))), rfl, _, rfl, ?_⟩
    rw [ne_put]
    have skip : ∀ q : ((Vbavab.beginOf s.table i).isSome && Vbavab.onBus (gm s.msgs i) bus) = false, H2 p = some (.lst (natV (putOn s bus (i + 1)))) := fun q => by
      rw [e1, if_neg (by rw [q]; exact Bool.false_ne_true), List.append_nil]; exact B2
    refine ite2 (fun h => ?_) (fun h => ?_)
    · refine ⟨_, rfl, _, rfl, a, _, bus, rfl, ⟨dx, s2 _ _ g0⟩, _, rfl, ?_⟩
      refine ite2 (fun h' => ?_) (fun h' => ?_)
      · refine ⟨_, rfl, .inl ⟨rfl, _, SqL.of B2⟩, _, rfl, p, _, _, rfl, rfl, B2, line_of ?_, _, _, rfl, s2.new hp, ?_⟩
        · rw [natV_len]; have := putOn_len s bus i; omega
        · rw [upd_same, natV_snoc, e1, h, h']; rfl
      · exact ⟨_, _, rfl, s2, skip (by rw [h, Bool.eq_false_iff.mpr h']; rfl)⟩
    · exact iteF ⟨_, _, rfl, s2, skip (by rw [Bool.eq_false_iff.mpr h]; rfl)⟩
  · rintro σ H1 ⟨v4, v5, rfl, s1, B⟩
    rw [hlen] at B
    exact ⟨_, rfl, k H1 p s1 hp B⟩
theorem ok_message_at {f : Addr} {fd : FuncData} (F : Fun K "message_at" "message_at" s_message_at f fd) (T : Txt K mg A) (c_put_on_bus : CalX P w K mg base 2 "put_on_bus" ["messages", "table", "bus"] (sp_put_on_bus K A)) : FnOk P w K mg base CX0 3 f fd ["messages", "table", "bus", "time"] (sp_message_at K A) := by
  obtain ⟨f_put_on_bus, fd_put_on_bus, c_put_on_bus⟩ := c_put_on_bus
  have nd := sc_message_at.nd
  refine F.ok sc_message_at (fun vs H Q E h => ?_) (fun cdv Ar outer s H vs Q E hr h => ?_)
  · obtain ⟨lm, lt, s, bus, time, rfl, hm, hl, o, ht, k⟩ := h; rfl
  obtain ⟨lm, lt, s, bus, time, rfl, hm, hl, o, ht, k⟩ := h
  refine ⟨_, (pss_cons (ps_for PassesOwn.never rfl (pi_list (pe_call c_put_on_bus.ok (hr.mono (by decide)) rfl c_put_on_bus.gm c_put_on_bus.kp c_put_on_bus.b .nil pass0 (pa_cons (pv 0) (pa_cons (pv 1) (pa_cons (pv 2) pa_nil))))) (pg_name (i := 4) nd rfl (Or.inl rfl))
 (pss_cons (ps_set (i := 5) nd rfl (Or.inl rfl) (pe_ix ix_list (pv 0) (pv 4) (fun _ _ => rfl)))
 (pss_one (ps_if (pt_cmpR op_lt (pe_op op_mod (pe_op op_sub (pv 3) (pe_ix ix_list (pv 1) (pv 4) (fun _ _ => rfl))) (pe_fld (pv 5) rfl)) (pe_fld (pv 5) rfl) (nomark _))
 (pss_one (ps_ret (pv 4)))
 pss_nil))))
 (pss_one (ps_ret pe_non))), ?_⟩
  have h8 := o.n8
  obtain ⟨as, hms, hmn, hat⟩ := hm.adr
  refine ⟨_, rfl, _, rfl, _, rfl, lm, lt, s, bus, rfl, hm, hl, o, ht, fun H1 p s1 hp B => ?_⟩
  rw [onAt_eq o] at k
  have k := k H1 s1
  generalize eL : putOn s bus s.msgs.length = L at B k
  have hL : ∀ i ∈ L, i < s.msgs.length := fun i hi => by rw [← eL] at hi; exact (mem_putOn.mp hi).1
  refine ⟨p, rfl, ⟨_, SqL.of B⟩, ?_⟩
  refine for_list (xs := natV L) (fun q σ H' => H' = H1 ∧ ∃ v4 v5 : Option V, σ = [some (.ref lm), some (.ref lt), some (.int bus), some (.int time), v4, v5] ∧ ∀ i ∈ L.take q, onT s time i = false) ⟨rfl, none, none, rfl, fun i hi => by simp at hi⟩ (fun i σ H' _ ⟨e, _⟩ => by rw [e]; exact SqL.of B) ?_ ?_
  · rintro q x σ H2 hx ⟨rfl, v4, v5, rfl, al⟩
    have hq : q < L.length := by rw [← natV_len]; exact (List.getElem?_eq_some_iff.mp hx).1
    have eq : L[q]? = some L[q] := List.getElem?_eq_getElem hq
    have ex : x = .int (L[q] : Nat) := by unfold natV at hx; rw [List.getElem?_map, eq] at hx; exact (Option.some.inj hx).symm
    subst ex
    have hi := hL _ (List.getElem_mem hq)
    obtain ⟨a, dx, ea, g0⟩ := hat _ hi
    have hms2 := s1 _ _ hms
    have hl2 := s1 _ _ hl
    have g1 := s1 _ _ g0
    have om := o.gm hi
    have hp1 := om.p1
    refine ⟨_, rfl, _, rfl, _, _, _, _, rfl, rfl, SqL.of hms2, (at_ref ea), ?_⟩
    refine ⟨_, rfl, _, rfl, _, rfl, _, _, _, _, rfl, rfl, SqL.of hl2, (at_int (tabI_at (by rw [ht]; exact hi))), _, _, rfl, rfl, _, rfl, _, _, _, _, _, rfl, g1, T.clMessage, T.nMessage_period, rfl, _, _, rfl, rfl, by omega, _, rfl, _, _, _, _, _, rfl, g1, T.clMessage, T.nMessage_length, rfl, _, _, rfl, rfl, _, rfl, ?_⟩
    have et : decide (((time : Int) - slotI (Vbavab.beginOf s.table L[q])) % ((gm s.msgs L[q]).period : Int) < ((gm s.msgs L[q]).len : Int)) = onT s time L[q] := rfl
    refine ite2 (fun h => ?_) (fun h => ?_)
    · have h : onT s time L[q] = true := h
      refine ⟨_, rfl, ?_⟩
      have ef : L.find? (onT s time) = some L[q] := by
        rw [List.find?_eq_some_iff_append]
        refine ⟨h, L.take q, L.drop (q + 1), ?_, fun i hi => by rw [al i hi]; rfl⟩
        rw [← List.drop_eq_getElem_cons hq, List.take_append_drop]
      rw [ef] at k
      exact k
    · have h : onT s time L[q] = false := Bool.eq_false_iff.mpr h
      refine ⟨rfl, _, _, rfl, fun i hi => ?_⟩
      rw [List.take_add_one, eq] at hi
      rcases List.mem_append.mp hi with z | z
      · exact al i z
      · rw [List.mem_singleton.mp z]; exact h
  · rintro σ H2 ⟨rfl, v4, v5, rfl, al⟩
    rw [natV_len, List.take_length] at al
    have ef : L.find? (onT s time) = none := by
      rw [List.find?_eq_none]
      intro i hi; rw [al i hi]; exact Bool.false_ne_true
    rw [ef] at k
    exact k
theorem ok_round_length {f : Addr} {fd : FuncData} (F : Fun K "round_length" "round_length" s_round_length f fd) (T : Txt K mg A) (c_common_divisor : CalX P w K mg base 1 "common_divisor" ["one", "other"] (sp_common_divisor K A)) : FnOk P w K mg base CX0 2 f fd ["messages"] (sp_round_length K A) := by
  obtain ⟨f_common_divisor, fd_common_divisor, c_common_divisor⟩ := c_common_divisor
  have nd := sc_round_length.nd
  refine F.ok sc_round_length (fun vs H Q E h => ?_) (fun cdv Ar outer s H vs Q E hr h => ?_)
  · obtain ⟨l, ms, rfl, hm, o, k⟩ := h; rfl
  obtain ⟨l, ms, rfl, hm, o, k⟩ := h
  refine ⟨_, (pss_cons (ps_set (i := 1) nd rfl (Or.inl rfl) pe_int)
 (pss_cons (ps_for PassesOwn.never rfl (pi_list (pv 0)) (pg_name (i := 2) nd rfl (Or.inl rfl))
 (pss_one (ps_set (i := 1) nd rfl (Or.inl rfl) (pe_op op_mul (pe_op op_fdiv (pv 1) (pe_call c_common_divisor.ok (hr.mono (by decide)) rfl c_common_divisor.gm c_common_divisor.kp c_common_divisor.b .nil pass0 (pa_cons (pv 1) (pa_cons (pe_fld (pv 2) rfl) pa_nil)))) (pe_fld (pv 2) rfl)))))
 (pss_one (ps_ret (pv 1))))), ?_⟩
  obtain ⟨as, hms, hmn, hat⟩ := hm.adr
  have hlen : (as.map V.ref).length = ms.length := by rw [List.length_map, hmn]
  refine ⟨_, rfl, l, rfl, ⟨_, SqL.of hms⟩, ?_⟩
  refine for_list (xs := as.map V.ref) (fun i σ H' => H' = H ∧ ∃ v2 : Option V, σ = [some (.ref l), some (.int (Vbavab.roundOf (ms.take i) : Nat)), v2]) ⟨rfl, none, rfl⟩ (fun i σ H' _ ⟨e, _⟩ => by rw [e]; exact SqL.of hms) ?_ ?_
  · rintro i x σ H1 hx ⟨rfl, v2, rfl⟩
    have hi : i < ms.length := by rw [← hlen]; exact (List.getElem?_eq_some_iff.mp hx).1
    obtain ⟨a, dx, ea, g0⟩ := hat i hi
    have ex : x = .ref a := by rw [List.getElem?_map, ea] at hx; exact (Option.some.inj hx).symm
    subst ex
    have om := o _ (List.mem_of_getElem? (gm_at hi))
    have p1 := om.p1
    have p2 := om.p2
    have g1 : 0 < Nat.gcd (Vbavab.roundOf (ms.take i)) (gm ms i).period := Nat.gcd_pos_of_pos_right _ (by omega)
    have g2 : Nat.gcd (Vbavab.roundOf (ms.take i)) (gm ms i).period ≤ (gm ms i).period := Nat.le_of_dvd (by omega) (Nat.gcd_dvd_right _ _)
    refine ⟨_, rfl, _, rfl, _, rfl, _, _, _, _, _, rfl, g0, T.clMessage, T.nMessage_period, rfl, Vbavab.roundOf (ms.take i), (gm ms i).period, rfl, _, _, rfl, rfl, ⟨by omega, by omega⟩, _, rfl, _, _, _, _, _, rfl, g0, T.clMessage, T.nMessage_period, rfl, _, _, rfl, rfl, .inr ⟨by omega, by omega⟩, rfl, some (.ref a), ?_⟩
    have e : ((Vbavab.roundOf (ms.take i) : Nat) : Int) / ((Nat.gcd (Vbavab.roundOf (ms.take i)) (gm ms i).period : Nat) : Int) * ((gm ms i).period : Int) = ((Vbavab.roundOf (ms.take (i + 1)) : Nat) : Int) := by
      rw [List.take_add_one, gm_at hi]
      show _ = ((Vbavab.roundOf (ms.take i ++ [gm ms i]) : Nat) : Int)
      rw [roundOf_snoc, ← lcm_way, Int.natCast_mul, Int.natCast_ediv]
    exact congrArg (fun z : Int => ([some (.ref l), some (.int z), some (.ref a)] : L2.St)) e
  · rintro σ H1 ⟨rfl, v2, rfl⟩
    rw [hlen, List.take_length]
    exact ⟨_, rfl, k⟩
theorem ok_longest_wait {f : Addr} {fd : FuncData} (F : Fun K "longest_wait" "longest_wait" s_longest_wait f fd) (T : Txt K mg A) (c_common_divisor : CalX P w K mg base 1 "common_divisor" ["one", "other"] (sp_common_divisor K A)) : FnOk P w K mg base CX0 2 f fd ["ending", "coming", "lead"] (sp_longest_wait K A) := by
  obtain ⟨f_common_divisor, fd_common_divisor, c_common_divisor⟩ := c_common_divisor
  have nd := sc_longest_wait.nd
  refine F.ok sc_longest_wait (fun vs H Q E h => ?_) (fun cdv Ar outer s H vs Q E hr h => ?_)
  · obtain ⟨a, b, lead, m, n, rfl, ⟨dx1, h1⟩, ⟨dx2, h2⟩, o1, o2, k⟩ := h; rfl
  obtain ⟨a, b, lead, m, n, rfl, ⟨dx1, h1⟩, ⟨dx2, h2⟩, o1, o2, k⟩ := h
  refine ⟨_, (pss_cons (ps_set (i := 3) nd rfl (Or.inl rfl) (pe_call c_common_divisor.ok (hr.mono (by decide)) rfl c_common_divisor.gm c_common_divisor.kp c_common_divisor.b .nil pass0 (pa_cons (pe_fld (pv 0) rfl) (pa_cons (pe_fld (pv 1) rfl) pa_nil))))
 (pss_one (ps_ret (pe_op op_add (pe_op op_sub (pe_fld (pv 1) rfl) (pv 3)) (pe_op op_mod (pe_op op_sub (pv 2) (pe_fld (pv 0) rfl)) (pv 3)))))), ?_⟩
  have hg : (0 : Int) < (Nat.gcd m.period n.period : Nat) := by
    have := Nat.gcd_pos_of_pos_left n.period (show 0 < m.period from o1.p1)
    omega
  refine ⟨_, rfl, _, _, _, _, _, rfl, h1, T.clMessage, T.nMessage_period, rfl, _, rfl, _, _, _, _, _, rfl, h2, T.clMessage, T.nMessage_period, rfl, m.period, n.period, rfl, ?_⟩
  exact ⟨_, rfl, _, _, _, _, _, rfl, h2, T.clMessage, T.nMessage_period, rfl, _, rfl, _, _, rfl, rfl, _, rfl, _, rfl, _, _, _, _, _, rfl, h1, T.clMessage, T.nMessage_length, rfl, _, _, rfl, rfl, _, rfl, _, _, rfl, rfl, hg, _, _, rfl, rfl, k⟩
end
theorem leastW_snoc (s : Plan) (time : Nat) (l : List Nat) (a : Nat) : leastW s time (l ++ [a]) = lw s time (leastW s time l) a := by
  unfold leastW
  rw [List.foldl_append]
  rfl
def rowsC (s : Plan) (time : Nat) (L : List Nat) : List (List Int) := L.map (comeP s time)
theorem rowsC_get {s : Plan} {time : Nat} {L : List Nat} {i j : Nat} (e : L[i]? = some j) : (rowsC s time L).getD i [] = comeP s time j := by
  unfold rowsC
  rw [List.getD_eq_getElem?_getD, List.getElem?_map, e]; rfl
theorem lex_come {s : Plan} {time i j : Nat} (h : j < i) : HT.lexLt (comeP s time i) (comeP s time j) = decide (waitI s time i < waitI s time j) := by
  unfold comeP
  rw [HT.lexLt_cons]
  by_cases e : (time : Int) + waitI s time i = (time : Int) + waitI s time j
  · rw [if_pos e, HT.lexLt_cons, if_neg (by omega), decide_eq_false (by omega), decide_eq_false (by omega)]
  · rw [if_neg e]
    exact decide_eq_decide.mpr (by omega)
theorem least_arg {s : Plan} {time : Nat} {L : List Nat} (hL : L.Pairwise (· < ·)) : ∀ k, k < L.length → ∃ i, L[argBest (fun i j => HT.lexLt ((rowsC s time L).getD i []) ((rowsC s time L).getD j [])) k]? = some i ∧ i ∈ L.take (k + 1) ∧ leastW s time (L.take (k + 1)) = some i
  | 0, h => by
    have e : L[0]? = some L[0] := List.getElem?_eq_getElem h
    refine ⟨L[0], e, ?_, ?_⟩
    · rw [List.take_add_one, e]; simp
    · rw [List.take_add_one, e]; rfl
  | k + 1, h => by
    obtain ⟨i, h1, h2, h3⟩ := least_arg hL k (by omega)
    have e : L[k + 1]? = some L[k + 1] := List.getElem?_eq_getElem h
    have lt : i < L[k + 1] := by
      obtain ⟨q, hq, eq⟩ := List.mem_iff_getElem.mp h2
      rw [List.length_take] at hq
      rw [List.getElem_take] at eq
      rw [← eq]
      exact List.pairwise_iff_getElem.mp hL q (k + 1) (by omega) h (by omega)
    have et : L.take (k + 1 + 1) = L.take (k + 1) ++ [L[k + 1]] := by rw [List.take_add_one, e]; rfl
    have eb : HT.lexLt ((rowsC s time L).getD (k + 1) []) ((rowsC s time L).getD (argBest (fun i j => HT.lexLt ((rowsC s time L).getD i []) ((rowsC s time L).getD j [])) k) []) = decide (waitI s time L[k + 1] < waitI s time i) := by
      rw [rowsC_get e, rowsC_get h1, lex_come lt]
    rw [et, leastW_snoc, h3]
    by_cases q : waitI s time L[k + 1] < waitI s time i
    · have earg : argBest (fun i j => HT.lexLt ((rowsC s time L).getD i []) ((rowsC s time L).getD j [])) (k + 1) = k + 1 := if_pos (eb.trans (decide_eq_true q))
      rw [earg]
      refine ⟨L[k + 1], e, List.mem_append_right _ (List.mem_singleton.mpr rfl), ?_⟩
      unfold lw
      simp only [if_pos q]
    · have earg : argBest (fun i j => HT.lexLt ((rowsC s time L).getD i []) ((rowsC s time L).getD j [])) (k + 1) = argBest (fun i j => HT.lexLt ((rowsC s time L).getD i []) ((rowsC s time L).getD j [])) k := if_neg (by
        intro z
        have z : HT.lexLt ((rowsC s time L).getD (k + 1) []) ((rowsC s time L).getD (argBest (fun i j => HT.lexLt ((rowsC s time L).getD i []) ((rowsC s time L).getD j [])) k) []) = true := z
        rw [eb] at z
        exact q (of_decide_eq_true z))
      rw [earg]
      refine ⟨i, h1, List.mem_append_left _ h2, ?_⟩
      unfold lw
      simp only [if_neg q]
theorem putOn_sorted (s : Plan) (bus n : Nat) : (putOn s bus n).Pairwise (· < ·) := List.Pairwise.filter _ List.pairwise_lt_range
section
variable {P : Program} {w : World} {K : PySem.W.Frag} {mg : Str → Option Value} {base : Heap} {A : Adr}
theorem ok_next_message {f : Addr} {fd : FuncData} (F : Fun K "next_message" "next_message" s_next_message f fd) (T : Txt K mg A) (c_put_on_bus : CalX P w K mg base 2 "put_on_bus" ["messages", "table", "bus"] (sp_put_on_bus K A)) : FnOk P w K mg base CX0 3 f fd ["messages", "table", "bus", "time"] (sp_next_message K A) := by
  obtain ⟨f_put_on_bus, fd_put_on_bus, c_put_on_bus⟩ := c_put_on_bus
  have nd := sc_next_message.nd
  refine F.ok sc_next_message (fun vs H Q E h => ?_) (fun cdv Ar outer s H vs Q E hr h => ?_)
  · obtain ⟨lm, lt, s, bus, time, rfl, hm, hl, o, ht, k⟩ := h; rfl
  obtain ⟨lm, lt, s, bus, time, rfl, hm, hl, o, ht, k⟩ := h
  refine ⟨_, (pss_cons (ps_set (i := 4) nd rfl (Or.inl rfl) (pe_lst pa_nil))
 (pss_cons (ps_for PassesOwn.never rfl (pi_list (pe_call c_put_on_bus.ok (hr.mono (by decide)) rfl c_put_on_bus.gm c_put_on_bus.kp c_put_on_bus.b .nil pass0 (pa_cons (pv 0) (pa_cons (pv 1) (pa_cons (pv 2) pa_nil))))) (pg_name (i := 5) nd rfl (Or.inl rfl))
 (pss_cons (ps_set (i := 6) nd rfl (Or.inl rfl) (pe_op op_mod (pe_op op_sub (pe_ix ix_list (pv 1) (pv 5) (fun _ _ => rfl)) (pv 3)) (pe_fld (pe_ix ix_list (pv 0) (pv 5) (fun _ _ => rfl)) rfl)))
 (pss_one (ps_expr (pe_bm PySem.F.plainAttrs_list PySem.F.slot_list_append PySem.F.type_list_append mt_append (pv 4) (pa_cons (pe_tup (pa_cons (pe_op op_add (pv 3) (pv 6)) (pa_cons (pv 5) pa_nil))) pa_nil))))))
 (pss_cons (ps_if (pt_cmpR op_eq (pe_callB call_len_seq (by rfl) T.len PySem.boot_len (pa_cons (pv 4) pa_nil)) pe_int (nomark _))
 (pss_one (ps_ret pe_non))
 pss_nil)
 (pss_cons (ps_set (i := 7) nd rfl (Or.inl rfl) (pe_callB (call_minT rfl hr.units) (by rfl) T.min boot_min (pa_cons (pv 4) pa_nil)))
 (pss_one (ps_ret (pe_lst (pa_cons (pe_ix ix_tup (pv 7) pe_int (fun _ _ => rfl)) (pa_cons (pe_ix ix_tup (pv 7) pe_int (fun _ _ => rfl)) pa_nil))))))))), ?_⟩
  have h8 := o.n8
  obtain ⟨as, hms, hmn, hat⟩ := hm.adr
  refine ⟨Nat.zero_le _, fun p0 hp0 => ?_⟩
  have sp0 : Same H (upd H p0 (.lst [])) := Same.put hp0
  refine ⟨_, rfl, _, rfl, _, rfl, lm, lt, s, bus, rfl, hm.keep sp0, sp0 _ _ hl, o, ht, fun H1 p s1 hp B => ?_⟩
  have srt := putOn_sorted s bus s.msgs.length
  have hL8 := putOn_len s bus s.msgs.length
  have hL : ∀ i ∈ putOn s bus s.msgs.length, i < s.msgs.length := fun i hi => (mem_putOn.mp hi).1
  generalize putOn s bus s.msgs.length = L at B k srt hL hL8
  have np : p ≠ p0 := fun z => by rw [z, upd_same] at hp; cases hp
  have e0 : H1 p0 = some (.lst []) := s1 _ _ upd_same
  have s1' : Same H H1 := sp0.trans s1
  refine ⟨p, rfl, ⟨_, SqL.of B⟩, ?_⟩
  refine for_list (xs := natV L) (fun q σ H' => ∃ v5 v6 : Option V, σ = [some (.ref lm), some (.ref lt), some (.int bus), some (.int time), some (.ref p0), v5, v6, none] ∧ Same H H' ∧ H' p = some (.lst (natV L)) ∧ TupsAt H' p0 (rowsC s time (L.take q)))
    ⟨none, none, rfl, s1', B, ⟨[], e0, rfl, fun i a r e _ => by simp at e⟩⟩ (fun i σ H' _ ⟨_, _, _, _, e, _⟩ => SqL.of e) ?_ ?_
  · rintro q x σ H2 hx ⟨v5, v6, rfl, s2, B2, C⟩
    have hq : q < L.length := by rw [← natV_len]; exact (List.getElem?_eq_some_iff.mp hx).1
    have eq : L[q]? = some L[q] := List.getElem?_eq_getElem hq
    have ex : x = .int (L[q] : Nat) := by unfold natV at hx; rw [List.getElem?_map, eq] at hx; exact (Option.some.inj hx).symm
    subst ex
    have hi := hL _ (List.getElem_mem hq)
    obtain ⟨a, dx, ea, g0⟩ := hat _ hi
    have hms2 := s2 _ _ hms
    have hl2 := s2 _ _ hl
    have g1 := s2 _ _ g0
    have hp1 := (o.gm hi).p1
    refine ⟨_, rfl, _, rfl, _, _, _, _, rfl, rfl, SqL.of hl2, (at_int (tabI_at (by rw [ht]; exact hi))), _, rfl, _, _, rfl, rfl, _, rfl, _, rfl, _, _, _, _, rfl, rfl, SqL.of hms2, (at_ref ea), _, _, _, _, _, rfl, g1, T.clMessage, T.nMessage_period, rfl, _, _, rfl, rfl, by omega, ?_⟩
    obtain ⟨xs, ex, exl⟩ := C.lst
    refine ⟨_, rfl, .inl ⟨rfl, _, SqL.of ex⟩, _, rfl, _, rfl, _, _, rfl, rfl, _, rfl, (by show 2 ≤ sizeLine; decide), fun u hu => ?_⟩
    have nu : p0 ≠ u := ne_of_none ex hu
    have ex' : (upd H2 u (.tup ((comeP s time L[q]).map V.int))) p0 = some (.lst xs) := by rw [upd_ne nu]; exact ex
    refine ⟨p0, xs, .ref u, rfl, rfl, ex', line_of ?_, _, _, rfl, ?_, ?_, ?_⟩
    · unfold rowsC at exl; rw [List.length_map, List.length_take] at exl; omega
    · exact (s2.new (s2.free hu)).new hp0
    · rw [upd_ne np]
      exact (Same.put hu) _ _ B2
    · have z := C.push (r := comeP s time L[q]) hu ex'
      have e2 : rowsC s time (L.take (q + 1)) = rowsC s time (L.take q) ++ [comeP s time L[q]] := by
        unfold rowsC; rw [List.take_add_one, eq, List.map_append]; rfl
      rw [e2]
      exact z
  · rintro σ H2 ⟨v5, v6, rfl, s2, B2, C⟩
    rw [natV_len, List.take_length] at C
    obtain ⟨bs, hbs, hbl, hb⟩ := C.ex
    have hrl : (rowsC s time L).length = L.length := List.length_map ..
    have k2 := k H2 s2
    refine ⟨_, rfl, _, _, rfl, .inl (SqL.of hbs), rfl, _, rfl, ?_⟩
    by_cases hz : L.length = 0
    · have e : (bs.map V.ref).length = 0 := by rw [List.length_map]; omega
      rw [show ((bs.map V.ref).length : Int) = 0 by omega]
      refine iteT ?_
      have eL : L = [] := List.eq_nil_of_length_eq_zero hz
      exact k2.1 (by rw [eL]; rfl)
    · have e : decide (V.int ((bs.map V.ref).length : Nat) = V.int 0) = false := decide_eq_false fun z => by
        injection z with z
        rw [List.length_map] at z; omega
      rw [e]
      refine iteF ?_
      obtain ⟨j, j1, j2, j3⟩ := least_arg (s := s) (time := time) srt (L.length - 1) (by omega)
      rw [show L.length - 1 + 1 = L.length by omega, List.take_length] at j3
      refine ⟨_, rfl, p0, bs, rowsC s time L, rfl, SqL.of hbs, hbl, by omega, fun i a r e1 e2 => SqT.of (hb i a r e1 e2), fun a ea => ?_⟩
      rw [hrl] at ea
      have er : (rowsC s time L)[argBest (fun i j => HT.lexLt ((rowsC s time L).getD i []) ((rowsC s time L).getD j [])) (L.length - 1)]? = some (comeP s time j) := by
        unfold rowsC at j1 ⊢
        rw [List.getElem?_map, j1]; rfl
      have ga := hb _ a _ ea er
      refine ⟨_, rfl, a, _, 1, .int (j : Nat), rfl, rfl, SqT.of ga, rfl, _, rfl, a, _, 0, .int ((time : Int) + waitI s time j), rfl, rfl, SqT.of ga, rfl, (by show 2 ≤ sizeLine; decide), fun p5 hp5 => ?_⟩
      exact (k _ (s2.new (s2.free hp5))).2 j p5 j3 (s2.free hp5) upd_same
end
def onM (bus : Nat) (ms : List Msg) : List Msg := ms.filter fun m => Vbavab.onBus m bus
theorem onM_succ {ms : List Msg} {i : Nat} (h : i < ms.length) (bus : Nat) : onM bus (ms.take (i + 1)) = onM bus (ms.take i) ++ (if Vbavab.onBus (gm ms i) bus = true then [gm ms i] else []) := by
  unfold onM
  rw [List.take_add_one, gm_at h, List.filter_append]
  congr 1
  exact filter_one _ _
def shareI (R : Nat) (m : Msg) : Int := ((R / m.period * m.len : Nat) : Int)
theorem share_sum (R : Nat) : ∀ l : List Msg, (l.map (shareI R)).sum = ((loadL R l : Nat) : Int) := fun l => by
  rw [loadL_sum]
  induction l with
  | nil => rfl
  | cons a l ih => rw [List.map_cons, List.sum_cons, ih, List.map_cons, List.sum_cons, Int.natCast_add]; rfl
def sp_bus_load (K : PySem.W.Frag) (A : Adr) : Sp := fun vs H Q _ => ∃ (lm : Addr) (ms : List Msg) (bus : Nat), vs = [.ref lm, .int bus] ∧ MsgsAt A H lm ms ∧ (∀ m ∈ ms, OkM m) ∧ ms.length ≤ 8 ∧
  ∀ (H' : Hp) (p : Addr), Same H H' → H p = none → H' p = some (.lst ((Vbavab.fraction (loadL (Vbavab.roundOf (onM bus ms)) (onM bus ms)) (Vbavab.roundOf (onM bus ms))).map V.int)) → Q (.ref p) H'
def sp_taken_slots (K : PySem.W.Frag) (A : Adr) : Sp := fun vs H Q _ => ∃ (lm lt : Addr) (s : Plan) (bus : Nat), vs = [.ref lm, .ref lt, .int bus] ∧ MsgsAt A H lm s.msgs ∧ H lt = some (.lst ((tabI s.table).map V.int)) ∧ OkP s ∧ s.table.length = s.msgs.length ∧ TabIn s ∧ Vbavab.roundOf s.msgs ≤ 5000 ∧
  ∀ (H' : Hp) (p : Addr), Same H H' → H' p = some (.lst (((List.range (Vbavab.roundOf s.msgs)).map (takenF s (putOn s bus s.msgs.length))).map V.bl)) → Q (.ref p) H'
def sp_longest_free_run (K : PySem.W.Frag) (A : Adr) : Sp := fun vs H Q _ => ∃ (l : Addr) (bs : List Bool), vs = [.ref l] ∧ H l = some (.lst (bs.map V.bl)) ∧ bs.length ≤ 5000 ∧ ∀ H', Same H H' → Q (.int (min bs.length (rf (bs ++ bs) (0, 0)).2 : Nat)) H'
theorem rg_mult {x p M : Nat} (hp : 1 ≤ p) (hp2 : p ≤ 64) (hx : x < p) (hM : 1 ≤ M) (hR : M * p ≤ 5000) : RgC (x : Int) ((M * p : Nat) : Int) (p : Int) M := by
  have hle : p ≤ M * p := Nat.le_mul_of_pos_left p hM
  have size : Builtin.Range.rangeSize (x : Int) ((M * p : Nat) : Int) (p : Int) = (M : Int) := by
    unfold Builtin.Range.rangeSize
    rw [if_pos (by omega), if_pos (by omega)]
    have e : ((M * p : Nat) : Int) - (x : Int) - 1 = ((p - 1 - x : Nat) : Int) + (p : Int) * ((M - 1 : Nat) : Int) := by
      have e1 : (p : Int) * ((M - 1 : Nat) : Int) = ((M * p : Nat) : Int) - p := by
        rw [Int.natCast_sub hM, Int.mul_sub, Int.natCast_mul, Int.mul_comm (M : Int)]; simp
      rw [e1]; omega
    rw [e, Int.add_mul_ediv_left _ _ (by omega), Int.ediv_eq_zero_of_lt (by omega) (by omega)]
    omega
  refine ⟨by omega, by omega, ?_, size⟩
  unfold Builtin.Range.small
  have hM2 : M ≤ M * p := Nat.le_mul_of_pos_right M hp
  rw [size]
  simp only [Builtin.Range.rangeFitsLong, Bool.and_eq_true, Bool.or_eq_true, decide_eq_true_eq, beq_iff_eq]
  rw [if_pos (show (p : Int) > 0 by omega)]
  simp only [Bool.and_eq_true, decide_eq_true_eq]
  omega
theorem rep_bl (R : Nat) : (List.replicate R [V.bl false]).flatten = ((List.range R).map fun _ => false).map V.bl := by
  rw [← rep_map_range]
  induction R with
  | zero => rfl
  | succ n ih => rw [List.replicate_succ, List.flatten_cons, ih, List.replicate_succ]; rfl
section
variable {P : Program} {w : World} {K : PySem.W.Frag} {mg : Str → Option Value} {base : Heap} {A : Adr}
theorem ok_bus_load {f : Addr} {fd : FuncData} (F : Fun K "bus_load" "bus_load" s_bus_load f fd) (T : Txt K mg A) (c_round_length : CalX P w K mg base 2 "round_length" ["messages"] (sp_round_length K A)) (c_common_divisor : CalX P w K mg base 1 "common_divisor" ["one", "other"] (sp_common_divisor K A)) (c_goes_on : CalX P w K mg base 1 "goes_on" ["message", "bus"] (sp_goes_on K A)) : FnOk P w K mg base CX0 3 f fd ["messages", "bus"] (sp_bus_load K A) := by
  obtain ⟨f_round_length, fd_round_length, c_round_length⟩ := c_round_length
  obtain ⟨f_common_divisor, fd_common_divisor, c_common_divisor⟩ := c_common_divisor
  obtain ⟨f_goes_on, fd_goes_on, c_goes_on⟩ := c_goes_on
  have nd := sc_bus_load.nd
  refine F.ok sc_bus_load (fun vs H Q E h => ?_) (fun cdv Ar outer s H vs Q E hr h => ?_)
  · obtain ⟨lm, ms, bus, rfl, hm, om, h8, k⟩ := h; rfl
  obtain ⟨lm, ms, bus, rfl, hm, om, h8, k⟩ := h
  refine ⟨_, (pss_cons (ps_setLc (i := 2) (own := [("message", 6)]) rfl nd rfl rfl (sw_true rfl rfl rfl rfl) (pi_list (pv 0)) (blkOk_by (N := ["messages", "bus", "going", "slots", "taken", "divisor", "message"]) (sc := defScope s_bus_load) (by decide +kernel)) (fun _ _ _ _ _ => (pg_name (i := 6) nd rfl (Or.inl rfl))) (fun _ _ _ _ _ => (pts_one (pt_val (pe_call c_goes_on.ok (hr.mono (by decide)) rfl c_goes_on.gm c_goes_on.kp c_goes_on.b .nil pass0 (pa_cons (pv 6) (pa_cons (pv 1) pa_nil)))))) (fun _ _ _ _ _ => (pv 6)))
 (pss_cons (ps_set (i := 3) nd rfl (Or.inr rfl) (pe_call c_round_length.ok (hr.mono (by decide)) rfl c_round_length.gm c_round_length.kp c_round_length.b .nil pass0 (pa_cons (pv 2) pa_nil)))
 (pss_cons (ps_set (i := 4) nd rfl (Or.inl rfl) (pe_callB (cr_sum rfl) (by rfl) T.sum boot_sum (pa_cons (pe_lc (own := [("message", 6)]) rfl nd (pi_list (pv 2)) (blkOk_by (N := ["messages", "bus", "going", "slots", "taken", "divisor", "message"]) (sc := defScope s_bus_load) (by decide +kernel)) (fun _ _ _ _ _ => (pg_name (i := 6) nd rfl (Or.inl rfl))) (fun _ _ _ _ _ => pts_nil) (fun _ _ _ _ _ => (pe_op op_mul (pe_op op_fdivB (pv 3) (pe_fldK (K := K) rfl (pv 6) rfl)) (pe_fldK (K := K) rfl (pv 6) rfl)))) pa_nil)))
 (pss_cons (ps_set (i := 5) nd rfl (Or.inl rfl) (pe_call c_common_divisor.ok (hr.mono (by decide)) rfl c_common_divisor.gm c_common_divisor.kp c_common_divisor.b .nil pass0 (pa_cons (pv 4) (pa_cons (pv 3) pa_nil))))
 (pss_one (ps_ret (pe_lst (pa_cons (pe_op op_fdivB (pv 4) (pv 5)) (pa_cons (pe_op op_fdivB (pv 3) (pv 5)) pa_nil))))))))), ?_⟩
  obtain ⟨as, hms, hmn, hat⟩ := hm.adr
  have hlen : (as.map V.ref).length = ms.length := by rw [List.length_map, hmn]
  refine ⟨_, rfl, lm, rfl, ⟨_, SqL.of hms⟩, fun D hD => ?_⟩
  refine lc_list (xs := as.map V.ref) (fun i H' => Same H H' ∧ MsgsAt A H' D (onM bus (ms.take i))) ⟨Same.put hD, ⟨[], upd_same, rfl, fun i a r e _ => by simp at e⟩⟩ (fun i H' _ ⟨s1, _⟩ => SqL.of (s1 _ _ hms)) ?_ ?_
  · rintro i x H1 hx ⟨s1, B⟩
    have hi : i < ms.length := by rw [← hlen]; exact (List.getElem?_eq_some_iff.mp hx).1
    obtain ⟨a, dx, ea, g0⟩ := hat i hi
    have ex : x = .ref a := by rw [List.getElem?_map, ea] at hx; exact (Option.some.inj hx).symm
    subst ex
    have e1 := onM_succ hi bus
    refine ⟨rfl, ?_⟩
    refine ⟨_, rfl, _, rfl, a, _, bus, rfl, ⟨dx, s1 _ _ g0⟩, _, rfl, ?_⟩
    refine ite2 (fun h => ?_) (fun h => ?_)
    · obtain ⟨bs, eb, ebl, _⟩ := B.ex
      refine ⟨_, rfl, bs.map V.ref, eb, line_of ?_, s1.new hD, ?_⟩
      · rw [List.length_map, ebl]
        have : (onM bus (ms.take i)).length ≤ (ms.take i).length := List.length_filter_le ..
        rw [List.length_take] at this; omega
      · rw [e1, if_pos h]
        exact B.push ⟨dx, s1 _ _ g0⟩ eb
    · refine ⟨s1, ?_⟩
      rw [e1, if_neg h, List.append_nil]
      exact B
  · rintro H1 ⟨s1, B⟩
    rw [hlen, List.take_length] at B
    have og : ∀ m ∈ onM bus ms, OkM m := fun m hm => om m (List.mem_filter.mp hm).1
    have gl : (onM bus ms).length ≤ 8 := Nat.le_trans (List.length_filter_le ..) h8
    have rp := round_pos (l := onM bus ms) fun m hm => (og m hm).p1
    have rl := round_le (l := onM bus ms) (fun m hm => (og m hm).p2) gl
    refine ⟨_, rfl, D, onM bus ms, rfl, B, og, ?_⟩
    generalize onM bus ms = G at B og gl rp rl k
    obtain ⟨bs, hbs, hbl, hb⟩ := B.adr
    have hbl' : (bs.map V.ref).length = G.length := by rw [List.length_map, hbl]
    refine ⟨_, rfl, D, rfl, ⟨_, SqL.of hbs⟩, fun E hE => ?_⟩
    refine lc_list (xs := bs.map V.ref) (fun i H' => Same H1 H' ∧ H' E = some (.lst (((G.take i).map (shareI (Vbavab.roundOf G))).map V.int))) ⟨Same.put hE, upd_same⟩ (fun i H' _ ⟨s2, _⟩ => SqL.of (s2 _ _ hbs)) ?_ ?_
    · rintro i x H2 hx ⟨s2, C⟩
      have hi : i < G.length := by rw [← hbl']; exact (List.getElem?_eq_some_iff.mp hx).1
      obtain ⟨a, dx, ea, g0⟩ := hb i hi
      have ex : x = .ref a := by rw [List.getElem?_map, ea] at hx; exact (Option.some.inj hx).symm
      subst ex
      have g1 := s2 _ _ g0
      have o1 := og _ (List.mem_of_getElem? (gm_at hi))
      have p1 := o1.p1
      have p2 := o1.p2
      have f1 := o1.fit
      refine ⟨rfl, ?_⟩
      refine ⟨_, rfl, _, rfl, _, _, _, _, _, rfl, g1, T.clMessage, T.nMessage_period, rfl, _, _, rfl, rfl, ⟨by omega, by omega⟩, _, rfl, _, _, _, _, _, rfl, g1, T.clMessage, T.nMessage_length, rfl, _, _, rfl, rfl, .inr ⟨by omega, by omega⟩, _, C, line_of ?_, s2.new hE, ?_⟩
      · rw [List.length_map, List.length_map, List.length_take]; omega
      · rw [upd_same, List.take_add_one, gm_at hi, List.map_append, List.map_append]
        show some (HO.lst (_ ++ [V.int _])) = some (HO.lst (_ ++ [V.int (shareI (Vbavab.roundOf G) (gm G i))]))
        have e : ((Vbavab.roundOf G : Nat) : Int) / ((gm G i).period : Int) * ((gm G i).len : Int) = shareI (Vbavab.roundOf G) (gm G i) := by
          unfold shareI
          rw [Int.natCast_mul, Int.natCast_ediv]
        rw [e]
    · rintro H2 ⟨s2, C⟩
      rw [hbl', List.take_length] at C
      refine ⟨E, _, rfl, SqL.of C, ?_⟩
      rw [share_sum]
      have gp : 0 < Nat.gcd (loadL (Vbavab.roundOf G) G) (Vbavab.roundOf G) := Nat.gcd_pos_of_pos_right _ rp
      have gle : Nat.gcd (loadL (Vbavab.roundOf G) G) (Vbavab.roundOf G) ≤ Vbavab.roundOf G := Nat.le_of_dvd rp (Nat.gcd_dvd_right _ _)
      refine ⟨_, rfl, _, rfl, loadL (Vbavab.roundOf G) G, Vbavab.roundOf G, rfl, ?_⟩
      refine ⟨_, rfl, _, rfl, _, _, rfl, rfl, ⟨by omega, by omega⟩, _, rfl, _, rfl, _, _, rfl, rfl, ⟨by omega, by omega⟩, (by show 2 ≤ sizeLine; decide), fun p hp => ?_⟩
      have s3 : Same H H2 := s1.trans s2
      refine k _ p (s3.new (s3.free hp)) (s3.free hp) ?_
      rw [upd_same]
      unfold Vbavab.fraction Vbavab.ints
      show some (HO.lst [V.int _, V.int _]) = some (HO.lst [V.int (Int.ofNat _), V.int (Int.ofNat _)])
      have e1 : ∀ a b : Nat, (a : Int) / (b : Int) = Int.ofNat (a / b) := fun a b => (Int.natCast_ediv a b).symm
      rw [e1, e1]
theorem ok_taken_slots {f : Addr} {fd : FuncData} (F : Fun K "taken_slots" "taken_slots" s_taken_slots f fd) (T : Txt K mg A) (c_round_length : CalX P w K mg base 2 "round_length" ["messages"] (sp_round_length K A)) (c_put_on_bus : CalX P w K mg base 2 "put_on_bus" ["messages", "table", "bus"] (sp_put_on_bus K A)) : FnOk P w K mg base CX0 3 f fd ["messages", "table", "bus"] (sp_taken_slots K A) := by
  obtain ⟨f_round_length, fd_round_length, c_round_length⟩ := c_round_length
  obtain ⟨f_put_on_bus, fd_put_on_bus, c_put_on_bus⟩ := c_put_on_bus
  have nd := sc_taken_slots.nd
  refine F.ok sc_taken_slots (fun vs H Q E h => ?_) (fun cdv Ar outer s H vs Q E hr h => ?_)
  · obtain ⟨lm, lt, s, bus, rfl, hm, hl, o, ht, tw, hR, k⟩ := h; rfl
  obtain ⟨lm, lt, s, bus, rfl, hm, hl, o, ht, tw, hR, k⟩ := h
  refine ⟨_, (pss_cons (ps_set (i := 3) nd rfl (Or.inl rfl) (pe_call c_round_length.ok (hr.mono (by decide)) rfl c_round_length.gm c_round_length.kp c_round_length.b .nil pass0 (pa_cons (pv 0) pa_nil)))
 (pss_cons (ps_set (i := 4) nd rfl (Or.inl rfl) (pe_op op_rep (pe_lst (pa_cons pe_bl pa_nil)) (pv 3)))
 (pss_cons (ps_for PassesOwn.never rfl (pi_list (pe_call c_put_on_bus.ok (hr.mono (by decide)) rfl c_put_on_bus.gm c_put_on_bus.kp c_put_on_bus.b .nil pass0 (pa_cons (pv 0) (pa_cons (pv 1) (pa_cons (pv 2) pa_nil))))) (pg_name (i := 5) nd rfl (Or.inl rfl))
 (pss_cons (ps_set (i := 6) nd rfl (Or.inl rfl) (pe_ix ix_list (pv 0) (pv 5) (fun _ _ => rfl)))
 (pss_one (ps_for PassesOwn.never rfl (pi_range3 rfl T.range (pa_cons (pe_ix ix_list (pv 1) (pv 5) (fun _ _ => rfl)) (pa_cons (pv 3) (pa_cons (pe_fld (pv 6) rfl) pa_nil)))) (pg_name (i := 7) nd rfl (Or.inl rfl))
 (pss_one (ps_for PassesOwn.never rfl (pi_range2 rfl T.range (pa_cons (pv 7) (pa_cons (pe_op op_add (pv 7) (pe_fld (pv 6) rfl)) pa_nil))) (pg_name (i := 8) nd rfl (Or.inl rfl))
 (pss_one (ps_asg pe_bl (pg_sub (pv 4) (pv 8) set_list)))))))))
 (pss_one (ps_ret (pv 4)))))), ?_⟩
  have h8 := o.n8
  obtain ⟨as, hms, hmn, hat⟩ := hm.adr
  have rp := round_pos (l := s.msgs) fun m hm => (o.m m hm).p1
  refine ⟨_, rfl, lm, s.msgs, rfl, hm, o.m, ?_⟩
  refine ⟨(by show 1 ≤ sizeLine; decide), fun l0 hl0 => ⟨_, rfl, l0, _, _, rfl, rfl, upd_same, by omega, by omega, ?_, fun tk hT => ?_⟩⟩
  · show 1 * _ ≤ sizeLine
    rw [Int.toNat_natCast, Nat.one_mul]
    exact Nat.le_of_lt (line_of (by omega))
  rw [Int.toNat_natCast, rep_bl]
  have s0 : Same H (upd H l0 (.lst [.bl false])) := Same.put hl0
  have hT0 : H tk = none := s0.free hT
  have s1 : Same H (upd (upd H l0 (.lst [.bl false])) tk (.lst (((List.range (Vbavab.roundOf s.msgs)).map fun _ => false).map V.bl))) := s0.new hT0
  have T1 : (upd (upd H l0 (.lst [.bl false])) tk (.lst (((List.range (Vbavab.roundOf s.msgs)).map fun _ => false).map V.bl))) tk = some (.lst (((List.range (Vbavab.roundOf s.msgs)).map (takenF s [])).map V.bl)) := upd_same
  generalize upd (upd H l0 (.lst [.bl false])) tk (.lst (((List.range (Vbavab.roundOf s.msgs)).map fun _ => false).map V.bl)) = H1 at s1 T1
  refine ⟨_, rfl, _, rfl, _, rfl, lm, lt, s, bus, rfl, hm.keep s1, s1 _ _ hl, o, ht, fun H2 q s2 hq B => ?_⟩
  have hL : ∀ i ∈ putOn s bus s.msgs.length, i < s.msgs.length ∧ ∃ x, Vbavab.beginOf s.table i = some x := fun i hi => ⟨(mem_putOn.mp hi).1, (mem_putOn.mp hi).2.1⟩
  generalize putOn s bus s.msgs.length = L at B k hL
  have nT : q ≠ tk := (ne_of_none T1 hq).symm
  have s12 : Same H H2 := s1.trans s2
  refine ⟨q, rfl, ⟨_, SqL.of B⟩, ?_⟩
  refine for_list (xs := natV L) (fun n σ H' => ∃ v5 v6 v7 v8 : Option V, σ = [some (.ref lm), some (.ref lt), some (.int bus), some (.int (Vbavab.roundOf s.msgs : Nat)), some (.ref tk), v5, v6, v7, v8] ∧ Same H H' ∧ H' q = some (.lst (natV L)) ∧ H' tk = some (.lst (((List.range (Vbavab.roundOf s.msgs)).map (takenF s (L.take n))).map V.bl)))
    ⟨none, none, none, none, rfl, s12, B, s2 _ _ T1⟩ (fun i σ H' _ ⟨_, _, _, _, _, _, e, _⟩ => SqL.of e) ?_ ?_
  · rintro n x σ H3 hx ⟨v5, v6, v7, v8, rfl, s3, B3, T3⟩
    have hn : n < L.length := by rw [← natV_len]; exact (List.getElem?_eq_some_iff.mp hx).1
    have en : L[n]? = some L[n] := List.getElem?_eq_getElem hn
    have ex : x = .int (L[n] : Nat) := by unfold natV at hx; rw [List.getElem?_map, en] at hx; exact (Option.some.inj hx).symm
    subst ex
    obtain ⟨hi, xb, hxb⟩ := hL _ (List.getElem_mem hn)
    have et : L.take (n + 1) = L.take n ++ [L[n]] := by rw [List.take_add_one, en]; rfl
    generalize L[n] = i at hi hxb et
    obtain ⟨a, dx, ea, g0⟩ := hat i hi
    have hms3 := s3 _ _ hms
    have hl3 := s3 _ _ hl
    have g3 := s3 _ _ g0
    have om := o.gm hi
    have p1 := om.p1
    have p2 := om.p2
    have f1 := om.fit
    have l1 := om.l1
    have hw := tw i xb hxb
    obtain ⟨M, hM⟩ : ∃ M, Vbavab.roundOf s.msgs = M * (gm s.msgs i).period := ⟨Vbavab.roundOf s.msgs / (gm s.msgs i).period, (Nat.div_mul_cancel (round_dvd (List.mem_of_getElem? (gm_at hi)))).symm⟩
    have M1 : 1 ≤ M := by
      rcases Nat.eq_zero_or_pos M with z | z
      · rw [z, Nat.zero_mul] at hM; omega
      · exact z
    have eM : Vbavab.roundOf s.msgs / (gm s.msgs i).period = M := by rw [hM]; exact Nat.mul_div_cancel _ (by omega)
    refine ⟨_, rfl, _, rfl, _, _, _, _, rfl, rfl, SqL.of hms3, (at_ref ea), ?_⟩
    have es : slotI (Vbavab.beginOf s.table i) = (xb : Int) := by rw [hxb]; rfl
    refine ⟨_, rfl, _, rfl, _, _, _, _, rfl, rfl, SqL.of hl3, (at_int (tabI_at (by rw [ht]; exact hi))), _, rfl, _, rfl, _, _, _, _, _, rfl, g3, T.clMessage, T.nMessage_period, rfl, slotI (Vbavab.beginOf s.table i), _, _, M, rfl, ?_, ?_⟩
    · rw [es, hM]
      exact rg_mult p1 p2 (by omega) M1 (by omega)
    rw [es]
    refine for_rangeC (fun c σ H' => ∃ v7 v8 : Option V, σ = [some (.ref lm), some (.ref lt), some (.int bus), some (.int (Vbavab.roundOf s.msgs : Nat)), some (.ref tk), some (.int (i : Nat)), some (.ref a), v7, v8] ∧ Same H H' ∧ H' q = some (.lst (natV L)) ∧
      H' tk = some (.lst (((List.range (Vbavab.roundOf s.msgs)).map (markF (takenF s (L.take n)) xb (gm s.msgs i).period (gm s.msgs i).len c)).map V.bl))) ⟨v7, v8, rfl, s3, B3, by rw [markF_zero]; exact T3⟩ ?_ ?_
    · rintro c σ H4 hc ⟨v7, v8, rfl, s4, B4, T4⟩
      have g4 := s4 _ _ g0
      have eb : (xb : Int) + (c : Nat) * ((gm s.msgs i).period : Int) = ((xb + c * (gm s.msgs i).period : Nat) : Int) := by rw [Int.natCast_add, Int.natCast_mul]
      rw [eb]
      have hcM : (c + 1) * (gm s.msgs i).period ≤ M * (gm s.msgs i).period := Nat.mul_le_mul_right _ hc
      rw [Nat.succ_mul] at hcM
      refine ⟨_, rfl, _, rfl, _, rfl, _, _, _, _, _, rfl, g4, T.clMessage, T.nMessage_length, rfl, _, _, rfl, rfl, _, _, rfl, ⟨by omega, by omega, by omega, by omega⟩, ?_⟩
      rw [show (((xb + c * (gm s.msgs i).period : Nat) : Int) + ((gm s.msgs i).len : Int) - ((xb + c * (gm s.msgs i).period : Nat) : Int)).toNat = (gm s.msgs i).len by omega]
      refine for_range (fun j σ H' => ∃ v8 : Option V, σ = [some (.ref lm), some (.ref lt), some (.int bus), some (.int (Vbavab.roundOf s.msgs : Nat)), some (.ref tk), some (.int (i : Nat)), some (.ref a), some (.int ((xb + c * (gm s.msgs i).period : Nat) : Int)), v8] ∧ Same H H' ∧ H' q = some (.lst (natV L)) ∧
        H' tk = some (.lst (((List.range (Vbavab.roundOf s.msgs)).map (runF (markF (takenF s (L.take n)) xb (gm s.msgs i).period (gm s.msgs i).len c) (xb + c * (gm s.msgs i).period) j)).map V.bl))) ⟨v8, rfl, s4, B4, by rw [runF_zero]; exact T4⟩ ?_ ?_
      · rintro j σ H5 hj ⟨v8, rfl, s5, B5, T5⟩
        rw [show ((xb + c * (gm s.msgs i).period : Nat) : Int) + (j : Nat) = ((xb + c * (gm s.msgs i).period + j : Nat) : Int) by omega]
        have hlt : xb + c * (gm s.msgs i).period + j < Vbavab.roundOf s.msgs := by rw [hM]; omega
        refine ⟨_, rfl, _, rfl, tk, _, _, xb + c * (gm s.msgs i).period + j, rfl, rfl, T5, ?_, ?_⟩
        · rw [List.length_map, List.length_map, List.length_range]
          exact ixN_nat hlt
        · refine ⟨_, rfl, s5.new hT0, ?_, ?_⟩
          · rw [upd_ne nT]; exact B5
          · rw [upd_same, ← runF_succ, ← set_map_range _ hlt, List.map_set]
      · rintro σ H5 ⟨v8, rfl, s5, B5, T5⟩
        rw [markF_succ] at T5
        exact ⟨_, _, rfl, s5, B5, T5⟩
    · rintro σ H4 ⟨v7, v8, rfl, s4, B4, T4⟩
      refine ⟨_, _, _, _, rfl, s4, B4, ?_⟩
      rw [← eM, taken_succ o hi hxb hw, ← et] at T4
      exact T4
  · rintro σ H3 ⟨v5, v6, v7, v8, rfl, s3, B3, T3⟩
    rw [natV_len, List.take_length] at T3
    exact ⟨_, rfl, k H3 tk s3 T3⟩
theorem ok_longest_free_run {f : Addr} {fd : FuncData} (F : Fun K "longest_free_run" "longest_free_run" s_longest_free_run f fd) (T : Txt K mg A) : FnOk P w K mg base CX0 1 f fd ["taken"] (sp_longest_free_run K A) := by
  have nd := sc_longest_free_run.nd
  refine F.ok sc_longest_free_run (fun vs H Q E h => ?_) (fun cdv Ar outer s H vs Q E hr h => ?_)
  · obtain ⟨l, bs, rfl, hl, h5, k⟩ := h; rfl
  obtain ⟨l, bs, rfl, hl, h5, k⟩ := h
  refine ⟨_, (pss_cons (ps_if (pt_cmpR op_notIn_seq pe_bl (pv 0) (by with_unfolding_all rfl))
 (pss_one (ps_ret (pe_callB call_len_seq (by rfl) T.len PySem.boot_len (pa_cons (pv 0) pa_nil))))
 pss_nil)
 (pss_cons (ps_set (i := 1) nd rfl (Or.inl rfl) (pe_bm PySem.F.plainAttrs_list PySem.F.slot_list_index PySem.F.type_list_index mt_index (pv 0) (pa_cons pe_bl pa_nil)))
 (pss_cons (ps_set (i := 2) nd rfl (Or.inl rfl) pe_int)
 (pss_cons (ps_set (i := 3) nd rfl (Or.inl rfl) pe_int)
 (pss_cons (ps_for PassesOwn.never rfl (pi_list (pe_op op_cat (pe_slice sl_list (pv 0) (po_some (pv 1)) po_none) (pe_slice sl_list (pv 0) po_none (po_some (pv 1))))) (pg_name (i := 4) nd rfl (Or.inl rfl))
 (pss_cons (ps_set (i := 3) nd rfl (Or.inl rfl) (pe_ifExp (pt_val (pv 4)) pe_int (pe_op op_add (pv 3) pe_int)))
 (pss_one (ps_set (i := 2) nd rfl (Or.inl rfl) (pe_callB (call_max2 rfl) (by rfl) T.max boot_max (pa_cons (pv 2) (pa_cons (pv 3) pa_nil)))))))
 (pss_one (ps_ret (pv 2)))))))), ?_⟩
  have inv : inV (.bl true) (bs.map V.bl) = decide (true ∈ bs) := by
    unfold inV
    rw [Bool.eq_iff_iff, List.any_eq_true, decide_eq_true_eq]
    constructor
    · rintro ⟨x, hx, e⟩
      obtain ⟨b, hb, rfl⟩ := List.mem_map.mp hx
      have e : (b == true) = true := e
      rw [beq_iff_eq] at e
      exact e ▸ hb
    · intro h
      exact ⟨.bl true, List.mem_map.mpr ⟨true, h, rfl⟩, rfl⟩
  refine ⟨_, rfl, l, _, rfl, .inl (SqL.of hl), rfl, flat_bls bs, _, rfl, ?_⟩
  show if (!inV (.bl true) (bs.map V.bl)) = true then _ else _
  rw [inv]
  by_cases hin : true ∈ bs
  · rw [decide_eq_true hin]
    refine iteF ?_
    obtain ⟨n, hn, e1, e2, e3⟩ := run_turn hin
    rw [e3] at k
    refine ⟨_, rfl, .inl ⟨rfl, _, SqL.of hl⟩, l, _, .bl true, n, .bl true, rfl, rfl, SqL.of hl, rfl, flat_bls bs, by rw [List.getElem?_map, e1]; rfl, rfl, fun m z hm hz => ?_, ?_⟩
    · rw [List.getElem?_map] at hz
      cases q : bs[m]? with
      | none => rw [q] at hz; cases hz
      | some b =>
        rw [q] at hz
        have ez : z = .bl b := (Option.some.inj hz).symm
        have eb := e2 m b hm q
        rw [ez, eb]; rfl
    refine ⟨_, rfl, _, rfl, _, rfl, l, _, rfl, SqL.of hl, fun l1 h1 => ?_⟩
    have c1 : cutV (bs.map V.bl) (some (n : Int)) none = (bs.drop n).map V.bl := by
      unfold cutV
      rw [HT.sIx_nat, HT.sIx_none, List.length_map, Nat.min_eq_left (by omega), List.map_drop, List.take_of_length_le (by rw [List.length_drop, List.length_map]; exact Nat.le_refl _)]
    have c2 : cutV (bs.map V.bl) none (some (n : Int)) = (bs.take n).map V.bl := by
      unfold cutV
      rw [HT.sIx_none, HT.sIx_nat, List.length_map, Nat.min_eq_left (by omega), List.drop_zero, Nat.sub_zero, List.map_take]
    rw [c1]
    have s1 : Same H (upd H l1 (.lst ((bs.drop n).map V.bl))) := Same.put h1
    have a1 : (upd H l1 (.lst ((bs.drop n).map V.bl))) l1 = some (.lst ((bs.drop n).map V.bl)) := upd_same
    generalize upd H l1 (.lst ((bs.drop n).map V.bl)) = H1 at s1 a1
    refine ⟨_, rfl, _, rfl, _, rfl, l, _, rfl, SqL.of (s1 _ _ hl), fun l2 h2 => ?_⟩
    rw [c2]
    have s2 : Same H1 (upd H1 l2 (.lst ((bs.take n).map V.bl))) := Same.put h2
    have a2 : (upd H1 l2 (.lst ((bs.take n).map V.bl))) l2 = some (.lst ((bs.take n).map V.bl)) := upd_same
    generalize upd H1 l2 (.lst ((bs.take n).map V.bl)) = H2 at s2 a2
    refine ⟨l1, l2, _, _, rfl, rfl, s2 _ _ a1, a2, Nat.le_of_lt (line_of ?_), fun l3 h3 => ?_⟩
    · rw [List.length_map, List.length_map, List.length_drop, List.length_take]; omega
    rw [← List.map_append]
    have s3 : Same H (upd H2 l3 (.lst ((bs.drop n ++ bs.take n).map V.bl))) := (s1.trans s2).new ((s1.trans s2).free h3)
    have a3 : (upd H2 l3 (.lst ((bs.drop n ++ bs.take n).map V.bl))) l3 = some (.lst ((bs.drop n ++ bs.take n).map V.bl)) := upd_same
    generalize upd H2 l3 (.lst ((bs.drop n ++ bs.take n).map V.bl)) = H3 at s3 a3
    generalize bs.drop n ++ bs.take n = cs at a3 k
    refine ⟨l3, rfl, ⟨_, SqL.of a3⟩, ?_⟩
    refine for_list (xs := cs.map V.bl) (fun i σ H' => H' = H3 ∧ ∃ v4 : Option V, σ = [some (.ref l), some (.int (n : Nat)), some (.int ((rf (cs.take i) (0, 0)).2 : Nat)), some (.int ((rf (cs.take i) (0, 0)).1 : Nat)), v4]) ⟨rfl, none, rfl⟩ (fun i σ H' _ ⟨e, _⟩ => by rw [e]; exact SqL.of a3) ?_ ?_
    · rintro i x σ H4 hx ⟨rfl, v4, rfl⟩
      rw [List.getElem?_map] at hx
      cases q : cs[i]? with
      | none => rw [q] at hx; cases hx
      | some b =>
        rw [q] at hx
        have ex : x = .bl b := (Option.some.inj hx).symm
        subst ex
        have er : rf (cs.take (i + 1)) (0, 0) = rfs (rf (cs.take i) (0, 0)) b := by
          rw [List.take_add_one, q, rf_append]; rfl
        rw [er]
        generalize rf (cs.take i) (0, 0) = r
        refine ⟨_, rfl, _, rfl, ?_⟩
        cases b with
        | true =>
          refine iteT ⟨_, rfl, _, rfl, _, _, rfl, rfl, some (.bl true), ?_⟩
          show _ = ([some (.ref l), some (.int (n : Nat)), some (.int (r.2 : Nat)), some (.int (0 : Nat)), some (.bl true)] : L2.St)
          have e : (if (0 : Int) > (r.2 : Int) then (0 : Int) else (r.2 : Int)) = (r.2 : Int) := if_neg (by omega)
          exact congrArg (fun z : Int => ([some (.ref l), some (.int (n : Nat)), some (.int z), some (.int 0), some (.bl true)] : L2.St)) e
        | false =>
          refine iteF ⟨_, rfl, _, _, rfl, rfl, _, rfl, _, rfl, _, _, rfl, rfl, some (.bl false), ?_⟩
          show _ = ([some (.ref l), some (.int (n : Nat)), some (.int ((max r.2 (r.1 + 1) : Nat) : Int)), some (.int ((r.1 + 1 : Nat) : Int)), some (.bl false)] : L2.St)
          have e : (if ((r.1 : Int) + 1) > (r.2 : Int) then ((r.1 : Int) + 1) else (r.2 : Int)) = ((max r.2 (r.1 + 1) : Nat) : Int) := by split <;> omega
          exact congrArg (fun z : Int => ([some (.ref l), some (.int (n : Nat)), some (.int z), some (.int ((r.1 : Int) + 1)), some (.bl false)] : L2.St)) e
    · rintro σ H4 ⟨rfl, v4, rfl⟩
      rw [List.length_map, List.take_length]
      exact ⟨_, rfl, k H4 s3⟩
  · rw [decide_eq_false hin]
    refine iteT ⟨_, rfl, l, _, rfl, .inl (SqL.of hl), ?_⟩
    rw [run_all hin] at k
    rw [List.length_map]
    exact k H (Same.refl H)
end
theorem filter_from (e n : Nat) (h : e < n) : ((List.range n).filter fun x => decide (e ≤ x)) = (List.range (n - e)).map fun k => e + k := by
  cases e with
  | zero =>
    rw [List.filter_eq_self.mpr (fun a _ => decide_eq_true (Nat.zero_le a)), Nat.sub_zero]
    exact ((List.map_congr_left (g := id) fun a _ => Nat.zero_add a).trans (List.map_id _)).symm
  | succ i => exact range_above (by omega)
theorem roomL_zero {s : Plan} {t : List (Option Nat)} {i : Nat} (h : (gm s.msgs i).early ≤ (gm s.msgs i).late) : roomL s t i 0 = (List.range ((gm s.msgs i).late + 1 - (gm s.msgs i).early)).map fun k => (gm s.msgs i).early + k := by
  unfold roomL
  rw [filter_from _ _ (by omega)]
  exact List.filter_eq_self.mpr fun a _ => rfl
theorem roomL_len (s : Plan) (t : List (Option Nat)) (i o : Nat) : (roomL s t i o).length ≤ (gm s.msgs i).late + 1 := by
  unfold roomL
  exact Nat.le_trans (List.length_filter_le ..) (Nat.le_trans (List.length_filter_le ..) (by rw [List.length_range]; exact Nat.le_refl _))
def sp_room_of (K : PySem.W.Frag) (A : Adr) : Sp := fun vs H Q _ => ∃ (lm ld lt : Addr) (s : Plan) (i : Nat), vs = [.ref lm, .ref ld, .ref lt, .int i] ∧ MsgsAt A H lm s.msgs ∧ DemsAt A H ld s.demands ∧ H lt = some (.lst ((tabI s.table).map V.int)) ∧ OkP s ∧ s.table.length = s.msgs.length ∧ i < s.msgs.length ∧
  ∀ (H' : Hp) (p : Addr), Same H H' → H' p = some (.lst (natV (roomL s s.table i s.msgs.length))) → Q (.ref p) H'
def mvd (S U : List (Option Nat)) (n : Nat) : List Nat := (List.range n).filter fun i => !decide (slotOf S i = slotOf U i)
theorem mvd_succ (S U : List (Option Nat)) (n : Nat) : mvd S U (n + 1) = mvd S U n ++ (if slotOf S n = slotOf U n then [] else [n]) := by
  unfold mvd
  rw [List.range_succ, List.filter_append, filter_one]
  congr 1
  by_cases q : slotOf S n = slotOf U n
  · rw [decide_eq_true q, if_pos q]; rfl
  · rw [decide_eq_false q, if_neg q]; rfl
theorem mvd_moved (s : Plan) (S U : List (Option Nat)) : mvd S U s.msgs.length = Vbavab.moved s S U := by
  unfold mvd Vbavab.moved Vbavab.numbers slotOf
  congr 1
  funext i
  rw [sameBegin_slot]
theorem mvd_len (S U : List (Option Nat)) (n : Nat) : (mvd S U n).length ≤ n := by
  unfold mvd
  exact Nat.le_trans (List.length_filter_le ..) (by rw [List.length_range]; exact Nat.le_refl _)
theorem barL_len (s : Plan) (S U : List (Option Nat)) (i n : Nat) : (barL s S U i n).length ≤ n := by
  unfold barL
  exact Nat.le_trans (List.length_filter_le ..) (by rw [List.length_range]; exact Nat.le_refl _)
def sp_moving_messages (K : PySem.W.Frag) (A : Adr) : Sp := fun vs H Q _ => ∃ (lS lU : Addr) (S U : List (Option Nat)), vs = [.ref lS, .ref lU] ∧ H lS = some (.lst ((tabI S).map V.int)) ∧ H lU = some (.lst ((tabI U).map V.int)) ∧ U.length = S.length ∧ S.length ≤ 8 ∧
  ∀ (H' : Hp) (p : Addr), Same H H' → H p = none → H' p = some (.lst (natV (mvd S U S.length))) → Q (.ref p) H'
def sp_barring_messages (K : PySem.W.Frag) (A : Adr) : Sp := fun vs H Q _ => ∃ (lm ld lS lU : Addr) (s : Plan) (S U : List (Option Nat)) (i : Nat), vs = [.ref lm, .ref ld, .ref lS, .ref lU, .int i] ∧ MsgsAt A H lm s.msgs ∧ DemsAt A H ld s.demands ∧ H lS = some (.lst ((tabI S).map V.int)) ∧ H lU = some (.lst ((tabI U).map V.int)) ∧ OkP s ∧ S.length = s.msgs.length ∧ U.length = s.msgs.length ∧ i < s.msgs.length ∧
  ∀ (H' : Hp) (p : Addr), Same H H' → H p = none → H' p = some (.lst (natV (barL s S U i s.msgs.length))) → Q (.ref p) H'
structure BarsAt (H : Hp) (p : Addr) (out : List Addr) (s : Plan) (S U : List (Option Nat)) : Prop where
  ex : p ∉ out ∧ ∃ as : List Addr, H p = some (.lst (as.map V.ref)) ∧ as.length = s.msgs.length ∧ ∀ (k : Nat) (a : Addr), as[k]? = some a → a ∉ out ∧ H a = some (.lst (natV (barL s S U k s.msgs.length)))
theorem BarsAt.keep {H H' : Hp} {p : Addr} {out : List Addr} {s : Plan} {S U : List (Option Nat)} (h : BarsAt H p out s S U) (sm : Same H H') : BarsAt H' p out s S U := by
  obtain ⟨h0, as, h1, h2, h3⟩ := h.ex
  exact ⟨h0, as, sm _ _ h1, h2, fun k a e => ⟨(h3 k a e).1, sm _ _ (h3 k a e).2⟩⟩
theorem BarsAt.off {H : Hp} {p x : Addr} {u : HO} {out : List Addr} {s : Plan} {S U : List (Option Nat)} (h : BarsAt H p out s S U) (hx : x ∈ out) : BarsAt (upd H x u) p out s S U := by
  obtain ⟨h0, as, h1, h2, h3⟩ := h.ex
  refine ⟨h0, as, by rw [upd_ne (fun z : p = x => h0 (by rw [z]; exact hx))]; exact h1, h2, fun k a e => ⟨(h3 k a e).1, ?_⟩⟩
  rw [upd_ne (fun z : a = x => (h3 k a e).1 (by rw [z]; exact hx))]
  exact (h3 k a e).2
theorem BarsAt.grow {H : Hp} {p x : Addr} {u : HO} {out : List Addr} {s : Plan} {S U : List (Option Nat)} (h : BarsAt H p out s S U) (hx : H x = none) : BarsAt (upd H x u) p (x :: out) s S U := by
  obtain ⟨h0, as, h1, h2, h3⟩ := h.ex
  refine ⟨fun z => ?_, as, by rw [upd_ne (ne_of_none h1 hx)]; exact h1, h2, fun k a e => ⟨fun z => ?_, ?_⟩⟩
  · rcases List.mem_cons.mp z with z | z
    · exact ne_of_none h1 hx z
    · exact h0 z
  · rcases List.mem_cons.mp z with z | z
    · exact ne_of_none (h3 k a e).2 hx z
    · exact (h3 k a e).1 z
  · rw [upd_ne (ne_of_none (h3 k a e).2 hx)]
    exact (h3 k a e).2
def sp_first_unbarred (K : PySem.W.Frag) (A : Adr) : Sp := fun vs H Q _ => ∃ (lw lb : Addr) (out : List Addr) (s : Plan) (S U : List (Option Nat)) (left : List Nat), vs = [.ref lw, .ref lb] ∧ H lw = some (.lst (natV left)) ∧ BarsAt H lb out s S U ∧ s.msgs.length ≤ 8 ∧ (∀ j ∈ left, j < s.msgs.length) ∧
  ∀ H', Same H H' → Q (optV (left.find? (free1 (fitM s S U) left))) H'
def sp_move_order (K : PySem.W.Frag) (A : Adr) : Sp := fun vs H Q _ => ∃ (lm ld lS lU : Addr) (s : Plan) (S U : List (Option Nat)), vs = [.ref lm, .ref ld, .ref lS, .ref lU] ∧ MsgsAt A H lm s.msgs ∧ DemsAt A H ld s.demands ∧ H lS = some (.lst ((tabI S).map V.int)) ∧ H lU = some (.lst ((tabI U).map V.int)) ∧ OkP s ∧ S.length = s.msgs.length ∧ U.length = s.msgs.length ∧
  ∀ H', Same H H' → (greedy (fitM s S U) s.msgs.length (Vbavab.moved s S U) = none → Q .non H') ∧ ∀ l p, greedy (fitM s S U) s.msgs.length (Vbavab.moved s S U) = some l → H' p = some (.lst (natV l)) → Q (.ref p) H'
theorem ne_nat (a b : Nat) : (!decide (V.int (a : Int) = V.int (b : Int))) = decide (a ≠ b) := by
  by_cases q : a = b
  · rw [q, decide_eq_true rfl, decide_eq_false (fun z => z rfl)]; rfl
  · rw [decide_eq_false (fun z => q (by injection z with z; omega)), decide_eq_true q]; rfl
theorem ne_slot (a b : Int) : (!decide (V.int a = V.int b)) = !decide (a = b) := by
  congr 1
  exact decide_eq_decide.mpr ⟨fun z => by injection z, fun z => by rw [z]⟩
theorem inV_nat (o : Nat) (l : List Nat) : inV (.int o) (natV l) = decide (o ∈ l) := by
  unfold inV natV
  rw [Bool.eq_iff_iff, List.any_eq_true, decide_eq_true_eq]
  constructor
  · rintro ⟨x, hx, e⟩
    obtain ⟨b, hb, rfl⟩ := List.mem_map.mp hx
    have e : ((b : Int) == (o : Int)) = true := e
    rw [beq_iff_eq] at e
    have e : b = o := by omega
    exact e ▸ hb
  · intro h
    exact ⟨.int o, List.mem_map.mpr ⟨o, h, rfl⟩, by show ((o : Int) == (o : Int)) = true; exact beq_self_eq_true _⟩
theorem flat_nat (l : List Nat) : (natV l).all flatV = true := List.all_eq_true.mpr fun x hx => by
  obtain ⟨b, _, rfl⟩ := List.mem_map.mp hx; rfl
theorem natV_int (l : List Nat) : natV l = (l.map fun (n : Nat) => (n : Int)).map V.int := by
  unfold natV; rw [List.map_map]; rfl
theorem erase_int (l : List Nat) (i : Nat) : (l.map fun (n : Nat) => (n : Int)).erase (i : Int) = (l.erase i).map fun (n : Nat) => (n : Int) := by
  induction l with
  | nil => rfl
  | cons a l ih =>
    rw [List.map_cons, List.erase_cons, List.erase_cons]
    by_cases q : a = i
    · rw [if_pos (by rw [q]; exact beq_self_eq_true _), if_pos (by rw [q]; exact beq_self_eq_true _)]
    · rw [if_neg (by rw [beq_iff_eq]; omega), if_neg (by rw [beq_iff_eq]; exact q), ih, List.map_cons]
section
variable {P : Program} {w : World} {K : PySem.W.Frag} {mg : Str → Option Value} {base : Heap} {A : Adr}
theorem ok_room_of {f : Addr} {fd : FuncData} (F : Fun K "room_of" "room_of" s_room_of f fd) (T : Txt K mg A) (c_demands_between : CalX P w K mg base 1 "demands_between" ["demands", "one", "other"] (sp_demands_between K A)) (c_lead_fits : CalX P w K mg base 4 "lead_fits" ["messages", "between", "one", "other", "lead"] (sp_lead_fits K A)) : FnOk P w K mg base CX0 5 f fd ["messages", "demands", "table", "number"] (sp_room_of K A) := by
  obtain ⟨f_demands_between, fd_demands_between, c_demands_between⟩ := c_demands_between
  obtain ⟨f_lead_fits, fd_lead_fits, c_lead_fits⟩ := c_lead_fits
  have nd := sc_room_of.nd
  refine F.ok sc_room_of (fun vs H Q E h => ?_) (fun cdv Ar outer s H vs Q E hr h => ?_)
  · obtain ⟨lm, ld, lt, s, i, rfl, hm, hd, hl, o, ht, hi, k⟩ := h; rfl
  obtain ⟨lm, ld, lt, s, i, rfl, hm, hd, hl, o, ht, hi, k⟩ := h
  refine ⟨_, (pss_cons (ps_set (i := 4) nd rfl (Or.inl rfl) (pe_lrange2 rfl rfl T.list rfl T.range (pa_cons (pe_fld (pe_ix ix_list (pv 0) (pv 3) (fun _ _ => rfl)) rfl) (pa_cons (pe_op op_add (pe_fld (pe_ix ix_list (pv 0) (pv 3) (fun _ _ => rfl)) rfl) pe_int) pa_nil))))
 (pss_cons (ps_for PassesOwn.never rfl (pi_range1 rfl T.range (pa_cons (pe_callB call_len_seq (by rfl) T.len PySem.boot_len (pa_cons (pv 2) pa_nil)) pa_nil)) (pg_name (i := 5) nd rfl (Or.inr rfl))
 (pss_one (ps_if (PW.pt (pw_and (pt_cmpR op_ne (pv 5) (pv 3) (nomark _)) (pw_and1 (pt_cmpR op_ne (pe_ix ix_list (pv 2) (pv 5) (fun _ _ => rfl)) (pe_cst rfl T.g_NOT_PUT) (nomark _)))))
 (pss_cons (ps_set (i := 6) nd rfl (Or.inr rfl) (pe_call c_demands_between.ok (hr.mono (by decide)) rfl c_demands_between.gm c_demands_between.kp c_demands_between.b .nil pass0 (pa_cons (pv 1) (pa_cons (pv 3) (pa_cons (pv 5) pa_nil)))))
 (pss_one (ps_setLc (i := 4) (own := [("x", 7)]) rfl nd rfl rfl (sw_true rfl rfl rfl rfl) (pi_list (pv 4)) (blkOk_by (N := ["messages", "demands", "table", "number", "room", "other", "between", "x"]) (sc := defScope s_room_of) (by decide +kernel)) (fun _ _ _ _ _ => (pg_name (i := 7) nd rfl (Or.inl rfl))) (fun _ _ _ _ _ => (pts_one (pt_val (pe_call c_lead_fits.ok (hr.mono (by decide)) rfl c_lead_fits.gm c_lead_fits.kp c_lead_fits.b .nil pass0 (pa_cons (pv 0) (pa_cons (pv 6) (pa_cons (pv 3) (pa_cons (pv 5) (pa_cons (pe_op op_sub (pe_ix (ix_listK (K := K) rfl) (pv 2) (pv 5) (fun _ _ => rfl)) (pv 7)) pa_nil))))))))) (fun _ _ _ _ _ => (pv 7)))))
 pss_nil)))
 (pss_one (ps_ret (pv 4))))), ?_⟩
  have h8 := o.n8
  obtain ⟨as, hms, hmn, hat⟩ := hm.adr
  obtain ⟨a, dx, ea, g0⟩ := hat i hi
  have om := o.gm hi
  have l63 := om.late63
  have el := om.el
  have hlen : ((tabI s.table).map V.int).length = s.msgs.length := by rw [List.length_map, tabI_len, ht]
  refine ⟨_, rfl, _, rfl, _, _, _, _, rfl, rfl, SqL.of hms, (at_ref ea), _, _, _, _, _, rfl, g0, T.clMessage, T.nMessage_earliest, rfl, _, rfl, _, rfl, _, _, _, _, rfl, rfl, SqL.of hms, (at_ref ea), _, _, _, _, _, rfl, g0, T.clMessage, T.nMessage_latest, rfl, _, _, rfl, rfl, _, _, rfl, ⟨by omega, by omega, by omega, by omega⟩, by omega, fun R hR => ?_⟩
  have e0 : (List.range (((gm s.msgs i).late : Int) + 1 - ((gm s.msgs i).early : Int)).toNat).map (fun (k : Nat) => V.int (((gm s.msgs i).early : Int) + (k : Int))) = natV (roomL s s.table i 0) := by
    rw [roomL_zero el, show (((gm s.msgs i).late : Int) + 1 - ((gm s.msgs i).early : Int)).toNat = (gm s.msgs i).late + 1 - (gm s.msgs i).early by omega]
    unfold natV
    rw [List.map_map]
    exact List.map_congr_left fun k _ => by show V.int _ = V.int _; rw [Int.natCast_add]
  rw [e0]
  refine ⟨_, rfl, _, _, rfl, .inl (SqL.of ((Same.put hR) _ _ hl)), (((tabI s.table).map V.int).length : Nat), rfl, by rw [hlen]; omega, by rw [hlen]; omega, ?_⟩
  rw [Int.toNat_natCast, hlen]
  refine for_range (fun j σ H' => ∃ (R : Addr) (v5 v6 : Option V), σ = [some (.ref lm), some (.ref ld), some (.ref lt), some (.int i), some (.ref R), v5, v6, none] ∧ Same H H' ∧ H' R = some (.lst (natV (roomL s s.table i j)))) ⟨R, none, none, rfl, Same.put hR, upd_same⟩ ?_ ?_
  · rintro j σ H1 hj ⟨R, v5, v6, rfl, s1, B⟩
    rw [show (0 : Int) + (j : Nat) = (j : Nat) from Int.zero_add _]
    have hl1 := s1 _ _ hl
    refine ⟨_, rfl, _, rfl, rfl, _, rfl, ?_⟩
    rw [ne_nat]
    by_cases q : j = i
    · rw [decide_eq_false (fun z => z q)]
      refine iteF ⟨_, _, _, rfl, s1, ?_⟩
      rw [roomL_succ_skip (by rw [decide_eq_true q]; rfl)]
      exact B
    · rw [decide_eq_true (show j ≠ i from q)]
      refine iteT ⟨_, rfl, _, rfl, _, _, _, _, rfl, rfl, SqL.of hl1, (at_int (tabI_at (by rw [ht]; exact hj))), rfl, _, rfl, ?_⟩
      rw [ne_put]
      cases hp : (Vbavab.beginOf s.table j).isSome with
      | false =>
        refine iteF ⟨_, _, _, rfl, s1, ?_⟩
        rw [roomL_succ_skip (by rw [hp, Bool.not_false, Bool.or_true])]
        exact B
      | true =>
        refine iteT ⟨_, rfl, _, rfl, _, rfl, ld, s.demands, i, j, rfl, hd.keep s1, o.n16, fun H2 lb s2 hb => ?_⟩
        have B2 := s2 _ _ B
        have s12 : Same H H2 := s1.trans s2
        have hsucc := roomL_succ (s := s) (t := s.table) (i := i) (o := j) (by rw [decide_eq_false q, hp]; rfl)
        have hlenR := roomL_len s s.table i j
        generalize roomL s s.table i j = L at B2 hsucc hlenR
        refine ⟨_, rfl, R, rfl, ⟨_, SqL.of B2⟩, fun D hD => ?_⟩
        refine lc_list (xs := natV L) (fun n H' => Same H2 H' ∧ H' D = some (.lst (natV ((L.take n).filter fun (x : Nat) => fitL s i j (slotI (Vbavab.beginOf s.table j) - (x : Int)))))) ⟨Same.put hD, upd_same⟩ (fun n H' _ ⟨s3, _⟩ => SqL.of (s3 _ _ B2)) ?_ ?_
        · rintro n x H3 hx ⟨s3, C⟩
          have hn : n < L.length := by rw [← natV_len]; exact (List.getElem?_eq_some_iff.mp hx).1
          have en : L[n]? = some L[n] := List.getElem?_eq_getElem hn
          have ex : x = .int (L[n] : Nat) := by unfold natV at hx; rw [List.getElem?_map, en] at hx; exact (Option.some.inj hx).symm
          subst ex
          have et : (L.take (n + 1)).filter (fun (x : Nat) => fitL s i j (slotI (Vbavab.beginOf s.table j) - (x : Int))) = (L.take n).filter (fun (x : Nat) => fitL s i j (slotI (Vbavab.beginOf s.table j) - (x : Int))) ++ (if fitL s i j (slotI (Vbavab.beginOf s.table j) - (L[n] : Int)) = true then [L[n]] else []) := by
            rw [List.take_add_one, en, List.filter_append]
            congr 1
            exact filter_one _ _
          have hl3 := s3 _ _ (s2 _ _ hl1)
          have s13 : Same H H3 := s12.trans s3
          refine ⟨rfl, ?_⟩
          refine ⟨_, rfl, _, rfl, _, rfl, _, rfl, _, rfl, _, rfl, _, _, _, _, rfl, rfl, SqL.of hl3, (at_int (tabI_at (by rw [ht]; exact hj))), _, rfl, _, _, rfl, rfl, lm, lb, s, i, j, _, rfl, hm.keep s13, hb.keep s3, o, hi, hj, _, rfl, ?_⟩
          refine ite2 (fun h => ?_) (fun h => ?_)
          · refine ⟨_, rfl, _, C, line_of ?_, s3.new hD, ?_⟩
            · rw [natV_len]
              exact Nat.le_trans (List.length_filter_le ..) (by rw [List.length_take]; omega)
            · rw [upd_same, natV_snoc, et, if_pos h]
          · refine ⟨s3, ?_⟩
            rw [et, if_neg h, List.append_nil]
            exact C
        · rintro H3 ⟨s3, C⟩
          rw [natV_len, List.take_length, ← hsucc] at C
          exact ⟨D, _, _, rfl, s12.trans s3, C⟩
  · rintro σ H1 ⟨R, v5, v6, rfl, s1, B⟩
    exact ⟨_, rfl, k H1 R s1 B⟩
theorem ok_moving_messages {f : Addr} {fd : FuncData} (F : Fun K "moving_messages" "moving_messages" s_moving_messages f fd) (T : Txt K mg A) : FnOk P w K mg base CX0 1 f fd ["start", "goal"] (sp_moving_messages K A) := by
  have nd := sc_moving_messages.nd
  refine F.ok sc_moving_messages (fun vs H Q E h => ?_) (fun cdv Ar outer s H vs Q E hr h => ?_)
  · obtain ⟨lS, lU, S, U, rfl, hS, hU, hlU, h8, k⟩ := h; rfl
  obtain ⟨lS, lU, S, U, rfl, hS, hU, hlU, h8, k⟩ := h
  refine ⟨_, (pss_one (ps_ret (pe_lc (own := [("number", 2)]) rfl nd (pi_range1 rfl T.range (pa_cons (pe_callB call_len_seq (by rfl) T.len PySem.boot_len (pa_cons (pv 0) pa_nil)) pa_nil)) (blkOk_by (N := ["start", "goal", "number"]) (sc := defScope s_moving_messages) (by decide +kernel)) (fun _ _ _ _ _ => (pg_name (i := 2) nd rfl (Or.inl rfl))) (fun _ _ _ _ _ => (pts_one (pt_cmpR op_ne (pe_ix (ix_listK (K := K) rfl) (pv 0) (pv 2) (fun _ _ => rfl)) (pe_ix (ix_listK (K := K) rfl) (pv 1) (pv 2) (fun _ _ => rfl)) (nomark _)))) (fun _ _ _ _ _ => (pv 2))))), ?_⟩
  have hlen : ((tabI S).map V.int).length = S.length := by rw [List.length_map, tabI_len]
  refine ⟨_, rfl, _, _, rfl, .inl (SqL.of hS), (((tabI S).map V.int).length : Nat), rfl, by rw [hlen]; omega, by rw [hlen]; omega, fun D hD => ?_⟩
  rw [Int.toNat_natCast, hlen]
  refine lc_range (fun i H' => Same H H' ∧ H' D = some (.lst (natV (mvd S U i)))) ⟨Same.put hD, upd_same⟩ ?_ ?_
  · rintro i H1 hi ⟨s1, B⟩
    rw [show (0 : Int) + (i : Nat) = (i : Nat) from Int.zero_add _]
    refine ⟨rfl, ?_⟩
    have hS1 := s1 _ _ hS
    have hU1 := s1 _ _ hU
    refine ⟨_, rfl, _, rfl, _, _, _, _, rfl, rfl, SqL.of hS1, (at_int (tabI_at hi)), _, rfl, _, rfl, _, _, _, _, rfl, rfl, SqL.of hU1, (at_int (tabI_at (by rw [hlU]; exact hi))), rfl, _, rfl, ?_⟩
    rw [ne_slot]
    have es := mvd_succ S U i
    by_cases q : slotI (Vbavab.beginOf S i) = slotI (Vbavab.beginOf U i)
    · rw [decide_eq_true q]
      rw [if_pos (show slotOf S i = slotOf U i from q), List.append_nil] at es
      exact iteF ⟨s1, by rw [es]; exact B⟩
    · rw [decide_eq_false q]
      rw [if_neg (show ¬ slotOf S i = slotOf U i from q)] at es
      refine iteT ⟨_, rfl, _, B, line_of ?_, s1.new hD, ?_⟩
      · rw [natV_len]; have := mvd_len S U i; omega
      · rw [upd_same, natV_snoc, es]
  · rintro H1 ⟨s1, B⟩
    exact k H1 D s1 hD B
theorem ok_barring_messages {f : Addr} {fd : FuncData} (F : Fun K "barring_messages" "barring_messages" s_barring_messages f fd) (T : Txt K mg A) (c_demands_between : CalX P w K mg base 1 "demands_between" ["demands", "one", "other"] (sp_demands_between K A)) (c_lead_fits : CalX P w K mg base 4 "lead_fits" ["messages", "between", "one", "other", "lead"] (sp_lead_fits K A)) : FnOk P w K mg base CX0 5 f fd ["messages", "demands", "start", "goal", "number"] (sp_barring_messages K A) := by
  obtain ⟨f_demands_between, fd_demands_between, c_demands_between⟩ := c_demands_between
  obtain ⟨f_lead_fits, fd_lead_fits, c_lead_fits⟩ := c_lead_fits
  have nd := sc_barring_messages.nd
  refine F.ok sc_barring_messages (fun vs H Q E h => ?_) (fun cdv Ar outer s H vs Q E hr h => ?_)
  · obtain ⟨lm, ld, lS, lU, s, S, U, i, rfl, hm, hd, hS, hU, o, hlS, hlU, hi, k⟩ := h; rfl
  obtain ⟨lm, ld, lS, lU, s, S, U, i, rfl, hm, hd, hS, hU, o, hlS, hlU, hi, k⟩ := h
  refine ⟨_, (pss_cons (ps_set (i := 5) nd rfl (Or.inl rfl) (pe_lst pa_nil))
 (pss_cons (ps_for PassesOwn.never rfl (pi_range1 rfl T.range (pa_cons (pe_callB call_len_seq (by rfl) T.len PySem.boot_len (pa_cons (pv 2) pa_nil)) pa_nil)) (pg_name (i := 6) nd rfl (Or.inl rfl))
 (pss_one (ps_if (pt_cmpR op_ne (pv 6) (pv 4) (nomark _))
 (pss_cons (ps_set (i := 7) nd rfl (Or.inl rfl) (pe_call c_demands_between.ok (hr.mono (by decide)) rfl c_demands_between.gm c_demands_between.kp c_demands_between.b .nil pass0 (pa_cons (pv 1) (pa_cons (pv 4) (pa_cons (pv 6) pa_nil)))))
 (pss_one (ps_if (pt_not (pt_val (pe_call c_lead_fits.ok (hr.mono (by decide)) rfl c_lead_fits.gm c_lead_fits.kp c_lead_fits.b .nil pass0 (pa_cons (pv 0) (pa_cons (pv 7) (pa_cons (pv 4) (pa_cons (pv 6) (pa_cons (pe_op op_sub (pe_ix ix_list (pv 2) (pv 6) (fun _ _ => rfl)) (pe_ix ix_list (pv 3) (pv 4) (fun _ _ => rfl))) pa_nil))))))))
 (pss_one (ps_expr (pe_bm PySem.F.plainAttrs_list PySem.F.slot_list_append PySem.F.type_list_append mt_append (pv 5) (pa_cons (pv 6) pa_nil))))
 pss_nil)))
 pss_nil)))
 (pss_one (ps_ret (pv 5))))), ?_⟩
  have h8 := o.n8
  have hlen : ((tabI S).map V.int).length = s.msgs.length := by rw [List.length_map, tabI_len, hlS]
  refine ⟨Nat.zero_le _, fun p hp => ?_⟩
  refine ⟨_, rfl, _, _, rfl, .inl (SqL.of ((Same.put hp) _ _ hS)), (((tabI S).map V.int).length : Nat), rfl, by rw [hlen]; omega, by rw [hlen]; omega, ?_⟩
  rw [Int.toNat_natCast, hlen]
  refine for_range (fun j σ H' => ∃ v6 v7 : Option V, σ = [some (.ref lm), some (.ref ld), some (.ref lS), some (.ref lU), some (.int i), some (.ref p), v6, v7] ∧ Same H H' ∧ H' p = some (.lst (natV (barL s S U i j)))) ⟨none, none, rfl, Same.put hp, upd_same⟩ ?_ ?_
  · rintro j σ H1 hj ⟨v6, v7, rfl, s1, B⟩
    rw [show (0 : Int) + (j : Nat) = (j : Nat) from Int.zero_add _]
    have es := barL_succ s S U i j
    refine ⟨_, rfl, _, rfl, rfl, _, rfl, ?_⟩
    rw [ne_nat]
    by_cases q : j = i
    · rw [decide_eq_false (fun z => z q)]
      rw [decide_eq_false (fun z => z q), Bool.false_and, if_neg Bool.false_ne_true, List.append_nil] at es
      exact iteF ⟨_, _, rfl, s1, by rw [es]; exact B⟩
    · rw [decide_eq_true (show j ≠ i from q)]
      rw [decide_eq_true (show j ≠ i from q), Bool.true_and] at es
      refine iteT ⟨_, rfl, _, rfl, _, rfl, ld, s.demands, i, j, rfl, hd.keep s1, o.n16, fun H2 lb s2 hb => ?_⟩
      have s12 : Same H H2 := s1.trans s2
      have hS2 := s12 _ _ hS
      have hU2 := s12 _ _ hU
      have B2 := s2 _ _ B
      refine ⟨_, rfl, _, rfl, _, rfl, _, rfl, _, rfl, _, rfl, _, _, _, _, rfl, rfl, SqL.of hS2, (at_int (tabI_at (by rw [hlS]; exact hj))), _, rfl, _, rfl, _, _, _, _, rfl, rfl, SqL.of hU2, (at_int (tabI_at (by rw [hlU]; exact hi))), _, _, rfl, rfl, lm, lb, s, i, j, _, rfl, hm.keep s12, hb, o, hi, hj, _, rfl, ?_⟩
      show if (!fitM s S U i j) = true then _ else _
      cases hf : fitM s S U i j with
      | true =>
        rw [hf, Bool.not_true, if_neg Bool.false_ne_true, List.append_nil] at es
        exact iteF ⟨_, _, rfl, s12, by rw [es]; exact B2⟩
      | false =>
        rw [hf, Bool.not_false, if_pos rfl] at es
        refine iteT ⟨_, rfl, .inl ⟨rfl, _, SqL.of B2⟩, _, rfl, p, _, _, rfl, rfl, B2, line_of ?_, _, _, rfl, s12.new hp, ?_⟩
        · rw [natV_len]; have := barL_len s S U i j; omega
        · rw [upd_same, natV_snoc, es]
  · rintro σ H1 ⟨v6, v7, rfl, s1, B⟩
    exact ⟨_, rfl, k H1 p s1 hp B⟩
theorem ok_first_unbarred {f : Addr} {fd : FuncData} (F : Fun K "first_unbarred" "first_unbarred" s_first_unbarred f fd) (T : Txt K mg A) : FnOk P w K mg base CX0 1 f fd ["waiting", "barring"] (sp_first_unbarred K A) := by
  have nd := sc_first_unbarred.nd
  refine F.ok sc_first_unbarred (fun vs H Q E h => ?_) (fun cdv Ar outer s H vs Q E hr h => ?_)
  · obtain ⟨lw, lb, out, s, S, U, left, rfl, hw, hb, h8, hlt, k⟩ := h; rfl
  obtain ⟨lw, lb, out, s, S, U, left, rfl, hw, hb, h8, hlt, k⟩ := h
  refine ⟨_, (pss_cons (ps_for PassesOwn.never rfl (pi_list (pv 0)) (pg_name (i := 2) nd rfl (Or.inl rfl))
 (pss_one (ps_if (pt_not (pt_val (pe_callB (cr_any rfl) (by rfl) T.any boot_any (pa_cons (pe_lc (own := [("other", 3)]) rfl nd (pi_list (pe_ix ix_list (pv 1) (pv 2) (fun _ _ => rfl))) (blkOk_by (N := ["waiting", "barring", "number", "other"]) (sc := defScope s_first_unbarred) (by decide +kernel)) (fun _ _ _ _ _ => (pg_name (i := 3) nd rfl (Or.inl rfl))) (fun _ _ _ _ _ => pts_nil) (fun _ _ _ _ _ => (pe_cmpR (op_in_seqK (K := K) rfl) (pv 3) (pv 0) (by with_unfolding_all rfl)))) pa_nil))))
 (pss_one (ps_ret (pv 2)))
 pss_nil)))
 (pss_one (ps_ret pe_non))), ?_⟩
  obtain ⟨_, as, has, hasn, hat⟩ := hb.ex
  refine ⟨_, rfl, lw, rfl, ⟨_, SqL.of hw⟩, ?_⟩
  refine for_list (xs := natV left) (fun n σ H' => ∃ v2 : Option V, σ = [some (.ref lw), some (.ref lb), v2, none] ∧ Same H H' ∧ ∀ i ∈ left.take n, free1 (fitM s S U) left i = false) ⟨none, rfl, Same.refl H, fun i hi => by simp at hi⟩ (fun i σ H' _ ⟨_, _, s1, _⟩ => SqL.of (s1 _ _ hw)) ?_ ?_
  · rintro n x σ H1 hx ⟨v2, rfl, s1, al⟩
    have hn : n < left.length := by rw [← natV_len]; exact (List.getElem?_eq_some_iff.mp hx).1
    have en : left[n]? = some left[n] := List.getElem?_eq_getElem hn
    have ex : x = .int (left[n] : Nat) := by unfold natV at hx; rw [List.getElem?_map, en] at hx; exact (Option.some.inj hx).symm
    subst ex
    have hi := hlt _ (List.getElem_mem hn)
    have ea : as[left[n]]? = some (as[left[n]]'(by omega)) := List.getElem?_eq_getElem (by omega)
    have gb := (hat _ _ ea).2
    have has1 := s1 _ _ has
    have gb1 := s1 _ _ gb
    have hw1 := s1 _ _ hw
    have bl := barL_len s S U left[n] s.msgs.length
    have ba := bar_any (s := s) (S := S) (U := U) (i := left[n]) hlt
    generalize barL s S U left[n] s.msgs.length = bar at gb1 ba bl
    refine ⟨_, rfl, _, rfl, _, _, _, _, rfl, rfl, SqL.of has1, (at_ref ea), _, rfl, ⟨_, SqL.of gb1⟩, fun D hD => ?_⟩
    refine lc_list (xs := natV bar) (fun q H' => Same H1 H' ∧ H' D = some (.lst (((bar.take q).map fun o => decide (o ∈ left)).map V.bl))) ⟨Same.put hD, upd_same⟩ (fun q H' _ ⟨s2, _⟩ => SqL.of (s2 _ _ gb1)) ?_ ?_
    · rintro q x H2 hx ⟨s2, C⟩
      have hq : q < bar.length := by rw [← natV_len]; exact (List.getElem?_eq_some_iff.mp hx).1
      have eq : bar[q]? = some bar[q] := List.getElem?_eq_getElem hq
      have ex : x = .int (bar[q] : Nat) := by unfold natV at hx; rw [List.getElem?_map, eq] at hx; exact (Option.some.inj hx).symm
      subst ex
      refine ⟨rfl, ?_⟩
      refine ⟨_, rfl, _, rfl, lw, _, rfl, .inl (SqL.of (s2 _ _ hw1)), rfl, flat_nat left, _, C, line_of ?_, s2.new hD, ?_⟩
      · rw [List.length_map, List.length_map, List.length_take]; omega
      · rw [upd_same, List.take_add_one, eq, List.map_append, List.map_append]
        show some (HO.lst (_ ++ [V.bl (inV (.int (bar[q] : Nat)) (natV left))])) = _
        rw [inV_nat]
        rfl
    · rintro H2 ⟨s2, C⟩
      rw [natV_len, List.take_length] at C
      refine ⟨D, _, rfl, SqL.of C, _, rfl, ?_⟩
      have e : (!((bar.map fun o => decide (o ∈ left)).any id)) = free1 (fitM s S U) left left[n] := by
        rw [← ba, List.any_map]; rfl
      show if (!((bar.map fun o => decide (o ∈ left)).any id)) = true then _ else _
      rw [e]
      refine ite2 (fun h => ?_) (fun h => ?_)
      · have ef : left.find? (free1 (fitM s S U) left) = some left[n] := by
          rw [List.find?_eq_some_iff_append]
          refine ⟨h, left.take n, left.drop (n + 1), ?_, fun i hi => by rw [al i hi]; rfl⟩
          rw [← List.drop_eq_getElem_cons hn, List.take_append_drop]
        rw [ef] at k
        exact ⟨_, rfl, k H2 (s1.trans s2)⟩
      · refine ⟨_, rfl, s1.trans s2, fun i hi => ?_⟩
        rw [List.take_add_one, en] at hi
        rcases List.mem_append.mp hi with z | z
        · exact al i z
        · rw [List.mem_singleton.mp z]; exact Bool.eq_false_iff.mpr h
  · rintro σ H1 ⟨v2, rfl, s1, al⟩
    rw [natV_len, List.take_length] at al
    have ef : left.find? (free1 (fitM s S U) left) = none := by
      rw [List.find?_eq_none]
      intro i hi; rw [al i hi]; exact Bool.false_ne_true
    rw [ef] at k
    exact k H1 s1
theorem ok_move_order {f : Addr} {fd : FuncData} (F : Fun K "move_order" "move_order" s_move_order f fd) (T : Txt K mg A) (c_moving_messages : CalX P w K mg base 1 "moving_messages" ["start", "goal"] (sp_moving_messages K A)) (c_barring_messages : CalX P w K mg base 5 "barring_messages" ["messages", "demands", "start", "goal", "number"] (sp_barring_messages K A)) (c_first_unbarred : CalX P w K mg base 1 "first_unbarred" ["waiting", "barring"] (sp_first_unbarred K A)) : FnOk P w K mg base CX0 6 f fd ["messages", "demands", "start", "goal"] (sp_move_order K A) := by
  obtain ⟨f_moving_messages, fd_moving_messages, c_moving_messages⟩ := c_moving_messages
  obtain ⟨f_barring_messages, fd_barring_messages, c_barring_messages⟩ := c_barring_messages
  obtain ⟨f_first_unbarred, fd_first_unbarred, c_first_unbarred⟩ := c_first_unbarred
  have nd := sc_move_order.nd
  refine F.ok sc_move_order (fun vs H Q E h => ?_) (fun cdv Ar outer s H vs Q E hr h => ?_)
  · obtain ⟨lm, ld, lS, lU, s, S, U, rfl, hm, hd, hS, hU, o, hlS, hlU, k⟩ := h; rfl
  obtain ⟨lm, ld, lS, lU, s, S, U, rfl, hm, hd, hS, hU, o, hlS, hlU, k⟩ := h
  refine ⟨_, (pss_cons (ps_set (i := 4) nd rfl (Or.inl rfl) (pe_call c_moving_messages.ok (hr.mono (by decide)) rfl c_moving_messages.gm c_moving_messages.kp c_moving_messages.b .nil pass0 (pa_cons (pv 2) (pa_cons (pv 3) pa_nil))))
 (pss_cons (ps_setLc (i := 5) (own := [("number", 7)]) rfl nd rfl rfl (sw_true rfl rfl rfl rfl) (pi_range1 rfl T.range (pa_cons (pe_callB call_len_seq (by rfl) T.len PySem.boot_len (pa_cons (pv 2) pa_nil)) pa_nil)) (blkOk_by (N := ["messages", "demands", "start", "goal", "waiting", "barring", "order", "number"]) (sc := defScope s_move_order) (by decide +kernel)) (fun _ _ _ _ _ => (pg_name (i := 7) nd rfl (Or.inl rfl))) (fun _ _ _ _ _ => pts_nil) (fun _ _ _ _ _ => (pe_call c_barring_messages.ok (hr.mono (by decide)) rfl c_barring_messages.gm c_barring_messages.kp c_barring_messages.b .nil pass0 (pa_cons (pv 0) (pa_cons (pv 1) (pa_cons (pv 2) (pa_cons (pv 3) (pa_cons (pv 7) pa_nil))))))))
 (pss_cons (ps_set (i := 6) nd rfl (Or.inl rfl) (pe_lst pa_nil))
 (pss_cons (ps_while PassesOwn.never (pt_cmpR op_gt (pe_callB call_len_seq (by rfl) T.len PySem.boot_len (pa_cons (pv 4) pa_nil)) pe_int (nomark _))
 (pss_cons (ps_set (i := 7) nd rfl (Or.inl rfl) (pe_call c_first_unbarred.ok (hr.mono (by decide)) rfl c_first_unbarred.gm c_first_unbarred.kp c_first_unbarred.b .nil pass0 (pa_cons (pv 4) (pa_cons (pv 5) pa_nil))))
 (pss_cons (ps_if (pt_cmpR op_isN (pv 7) pe_non (nomark _))
 (pss_one (ps_ret pe_non))
 pss_nil)
 (pss_cons (ps_expr (pe_bm PySem.F.plainAttrs_list PySem.F.slot_list_append PySem.F.type_list_append mt_append (pv 6) (pa_cons (pv 7) pa_nil)))
 (pss_one (ps_expr (pe_bm PySem.F.plainAttrs_list PySem.F.slot_list_remove PySem.F.type_list_remove mt_removeI (pv 4) (pa_cons (pv 7) pa_nil))))))))
 (pss_one (ps_ret (pv 6))))))), ?_⟩
  have h8 := o.n8
  have hlen : ((tabI S).map V.int).length = s.msgs.length := by rw [List.length_map, tabI_len, hlS]
  refine ⟨_, rfl, _, rfl, lS, lU, S, U, rfl, hS, hU, by omega, by omega, fun H1 lw s1 hlw W1 => ?_⟩
  rw [hlS, mvd_moved] at W1
  refine ⟨_, rfl, _, _, rfl, .inl (SqL.of (s1 _ _ hS)), (((tabI S).map V.int).length : Nat), rfl, by rw [hlen]; omega, by rw [hlen]; omega, fun D hD => ?_⟩
  rw [Int.toNat_natCast, hlen]
  have nDw : D ≠ lw := (ne_of_none W1 hD).symm
  refine lc_range (fun i H' => Same H1 H' ∧ ∃ as : List Addr, H' D = some (.lst (as.map V.ref)) ∧ as.length = i ∧ ∀ (k : Nat) (a : Addr), as[k]? = some a → a ≠ D ∧ a ≠ lw ∧ H' a = some (.lst (natV (barL s S U k s.msgs.length)))) ⟨Same.put hD, [], upd_same, rfl, fun k a e => by simp at e⟩ ?_ ?_
  · rintro i H2 hi ⟨s2, as, hA, hAl, hat⟩
    rw [show (0 : Int) + (i : Nat) = (i : Nat) from Int.zero_add _]
    have s12 : Same H H2 := s1.trans s2
    refine ⟨rfl, ?_⟩
    refine ⟨_, rfl, _, rfl, _, rfl, _, rfl, _, rfl, lm, ld, lS, lU, s, S, U, i, rfl, hm.keep s12, hd.keep s12, s12 _ _ hS, s12 _ _ hU, o, hlS, hlU, hi, fun H3 b s3 hb B => ⟨as.map V.ref, s3 _ _ hA, line_of (by rw [List.length_map]; omega), ?_⟩⟩
    refine ⟨(s2.trans s3).new hD, as ++ [b], by rw [upd_same, List.map_append]; rfl, by simp [hAl], fun k a e => ?_⟩
    by_cases he : k < as.length
    · rw [List.getElem?_append_left he] at e
      obtain ⟨z1, z2, z3⟩ := hat k a e
      exact ⟨z1, z2, by rw [upd_ne z1]; exact s3 _ _ z3⟩
    · rw [List.getElem?_append_right (by omega)] at e
      have hl2 := (List.getElem?_eq_some_iff.mp e).1
      have z0 : k - as.length = 0 := by simp at hl2; omega
      have ee : k = i := by omega
      subst ee
      rw [z0] at e
      have eB : b = a := Option.some.inj e
      subst eB
      have nb : b ≠ D := (ne_of_none hA hb).symm
      exact ⟨nb, (ne_of_none (s2 _ _ W1) hb).symm, by rw [upd_ne nb]; exact B⟩
  · rintro H2 ⟨s2, as, hA, hAl, hat⟩
    have W2 := s2 _ _ W1
    have bars : BarsAt H2 D [lw] s S U := ⟨by simpa using nDw, as, hA, hAl, fun k a e => ⟨by simpa using (hat k a e).2.1, (hat k a e).2.2⟩⟩
    have s12 : Same H H2 := s1.trans s2
    refine ⟨Nat.zero_le _, fun lo hlo => ?_⟩
    have nlo : lw ≠ lo := ne_of_none W2 hlo
    have W3 : (upd H2 lo (.lst [])) lw = some (.lst (natV (Vbavab.moved s S U))) := by rw [upd_ne nlo]; exact W2
    have bars3 := bars.grow (u := .lst []) hlo
    have s3 : Same H (upd H2 lo (.lst [])) := s12.new (s12.free hlo)
    have lo0 : H lo = none := s12.free hlo
    have O3 : (upd H2 lo (.lst [])) lo = some (.lst (natV [])) := upd_same
    generalize upd H2 lo (.lst []) = H3 at W3 bars3 s3 O3
    refine ⟨fun m σ H' => ∃ (left order : List Nat) (f : Nat) (v7 : Option V), σ = [some (.ref lm), some (.ref ld), some (.ref lS), some (.ref lU), some (.ref lw), some (.ref D), some (.ref lo), v7] ∧ Same H H' ∧ H' lw = some (.lst (natV left)) ∧ H' lo = some (.lst (natV order)) ∧ BarsAt H' D [lo, lw] s S U ∧
      left.length = m ∧ left.length ≤ f ∧ left.Nodup ∧ (∀ j ∈ left, j < s.msgs.length) ∧ order.length + left.length ≤ 8 ∧ catO order (greedy (fitM s S U) f left) = greedy (fitM s S U) s.msgs.length (Vbavab.moved s S U),
      ⟨_, Vbavab.moved s S U, [], s.msgs.length, none, rfl, s3, W3, O3, bars3, rfl, moved_len s S U, moved_nodup s S U, fun j hj => (mem_moved.mp hj).1, by have := moved_len s S U; simp; omega, ?_⟩, ?_⟩
    · cases greedy (fitM s S U) s.msgs.length (Vbavab.moved s S U) <;> rfl
    rintro m σ H4 ⟨left, order, f, v7, rfl, s4, W4, O4, B4, hm4, hf4, nd4, hlt4, h84, hg⟩
    refine ⟨_, rfl, _, _, rfl, .inl (SqL.of W4), _, _, rfl, rfl, _, rfl, ?_⟩
    have k4 := k H4 s4
    by_cases hz : left = []
    · subst hz
      rw [decide_eq_false (by simp [natV])]
      refine iteF ⟨_, rfl, k4.2 order lo ?_ O4⟩
      rw [← hg, greedy_nil]
      unfold catO
      simp
    · have hpos : 0 < left.length := List.length_pos_iff.mpr hz
      rw [decide_eq_true (show (0 : Int) < ((natV left).length : Nat) by rw [natV_len]; omega)]
      refine iteT ⟨_, fun _ _ q => q, ?_⟩
      refine ⟨_, rfl, _, rfl, lw, D, [lo, lw], s, S, U, left, rfl, W4, B4, h8, hlt4, fun H5 s5 => ?_⟩
      have s45 : Same H H5 := s4.trans s5
      cases hfi : left.find? (free1 (fitM s S U) left) with
      | none =>
        refine ⟨_, rfl, rfl, _, rfl, ?_⟩
        refine iteT ?_
        refine (k H5 s45).1 ?_
        rw [← hg, greedy_none hz hfi]
        rfl
      | some i =>
        have himem := List.mem_of_find?_eq_some hfi
        refine ⟨_, rfl, rfl, _, rfl, ?_⟩
        refine iteF ?_
        have O5 := s5 _ _ O4
        have W5 := s5 _ _ W4
        refine ⟨_, rfl, .inl ⟨rfl, _, SqL.of O5⟩, _, rfl, lo, _, _, rfl, rfl, O5, line_of (by rw [natV_len]; omega), ?_⟩
        have W6 : (upd H5 lo (.lst (natV order ++ [.int (i : Nat)]))) lw = some (.lst ((left.map fun (n : Nat) => (n : Int)).map V.int)) := by rw [upd_ne nlo, ← natV_int]; exact W5
        refine ⟨_, rfl, .inl ⟨rfl, _, SqL.of W6⟩, _, rfl, lw, _, _, rfl, rfl, W6, List.mem_map.mpr ⟨i, himem, rfl⟩, ?_⟩
        rw [erase_int, ← natV_int, erase_without nd4]
        obtain ⟨f', rfl⟩ : ∃ f', f = f' + 1 := ⟨f - 1, by omega⟩
        have hlt := without_len himem
        refine ⟨_, by rw [← hm4]; exact hlt, without left i, order ++ [i], f', _, rfl, (s45.new lo0).new hlw, upd_same, ?_, ((B4.keep s5).off (by simp)).off (by simp), rfl, by omega, without_nodup nd4 i, fun j hj => hlt4 j (mem_without.mp hj).1, by simp; omega, ?_⟩
        · rw [upd_ne nlo.symm, upd_same]
          show some (HO.lst (natV order ++ [V.int (i : Nat)])) = _
          rw [natV_snoc]
        · rw [← greedy_step hz hfi]
          exact hg
end
theorem tableRow_eq (t : List (Option Nat)) : Vbavab.tableRow t = (t.length : Int) :: tabI t := by
  unfold Vbavab.tableRow tabI
  congr 1
theorem row_natV (l : List Nat) : (Vbavab.row l).map V.int = .int (l.length : Nat) :: natV l := by
  unfold Vbavab.row
  rw [List.map_cons, ← natV_ints]; rfl
def mRow (m : Msg) : List Int := [(m.period : Int), (m.len : Int), (m.early : Int), (m.late : Int), (m.buses : Int)]
def dRow (d : Demand) : List Int := [(d.kind : Int), (d.a : Int), (d.b : Int), (d.gap : Int)]
theorem flat_len {α : Type} (f : α → List Int) (c : Nat) (h : ∀ a, (f a).length = c) : ∀ l : List α, (l.flatMap f).length = l.length * c
  | [] => by simp
  | a :: l => by rw [List.flatMap_cons, List.length_append, h, flat_len f c h l, List.length_cons, Nat.succ_mul, Nat.add_comm]
theorem flat_snoc {α : Type} (f : α → List Int) (l : List α) (a : α) : (l ++ [a]).flatMap f = l.flatMap f ++ f a := by
  rw [List.flatMap_append]; simp
theorem stateRow_eq (s : Plan) : Vbavab.stateRow s = ((s.msgs.length : Int) :: (s.msgs.flatMap mRow ++ ((s.demands.length : Int) :: s.demands.flatMap dRow))) ++ (Vbavab.tableRow s.table) ++ Vbavab.tableRow s.kept := by
  unfold Vbavab.stateRow
  simp only [List.cons_append, List.append_assoc]
  rfl
section
variable {P : Program} {w : World} {K : PySem.W.Frag} {mg : Str → Option Value} {base : Heap} {A : Adr}
theorem ok_answer_table {f : Addr} {fd : FuncData} (F : Fun K "answer_table" "answer_table" s_answer_table f fd) (T : Txt K mg A) (c_as_row : CalX P w K mg base 1 "as_row" ["numbers"] (sp_as_row K A)) : FnOk P w K mg base CX0 2 f fd ["desk", "numbers"] (sp_answer_table K A) := by
  obtain ⟨f_as_row, fd_as_row, c_as_row⟩ := c_as_row
  have nd := sc_answer_table.nd
  refine F.ok sc_answer_table (fun vs H Q E h => ?_) (fun cdv Ar outer s H vs Q E hr h => ?_)
  · obtain ⟨a, ln, own, s, ns, rfl, ⟨dx, lm, ld, lt, kv, rfl, h⟩, hn, hl, nown, k⟩ := h; rfl
  obtain ⟨a, ln, own, s, ns, rfl, ⟨dx, lm, ld, lt, kv, rfl, h⟩, hn, hl, nown, k⟩ := h
  refine ⟨_, (pss_one (ps_ret (pe_call c_as_row.ok (hr.mono (by decide)) rfl c_as_row.gm c_as_row.kp c_as_row.b .nil pass0 (pa_cons (pe_fld (pv 0) rfl) pa_nil)))), ?_⟩
  have h1 := h.ob
  have D : DeskAt A H a (a :: lm :: ld :: lt :: kvA kv) s := ⟨dx, lm, ld, lt, kv, rfl, h⟩
  have h8 := h.ok.n8
  have tl := h.tl
  have e0 : ns = [] := List.eq_nil_of_length_eq_zero hl
  subst e0
  refine ⟨_, rfl, _, _, _, _, _, rfl, h1, T.clDesk, T.nDesk_table, rfl, lt, _, rfl, h.tb, by rw [List.length_map, tabI_len]; omega, fun H1 p s1 hp0 hp => spH_same D k (call16 s) s1 ?_ hp0 ?_⟩
  · rw [hp, tableRow_eq, List.length_map, tabI_len]; rfl
  · rw [tableRow_eq, List.length_cons, tabI_len]; omega
theorem ok_answer_room {f : Addr} {fd : FuncData} (F : Fun K "answer_room" "answer_room" s_answer_room f fd) (T : Txt K mg A) (c_as_row : CalX P w K mg base 1 "as_row" ["numbers"] (sp_as_row K A)) (c_has_message : CalX P w K mg base 1 "has_message" ["desk", "number"] (sp_has_message K A)) (c_room_of : CalX P w K mg base 5 "room_of" ["messages", "demands", "table", "number"] (sp_room_of K A)) : FnOk P w K mg base CX0 6 f fd ["desk", "numbers"] (sp_answer_room K A) := by
  obtain ⟨f_as_row, fd_as_row, c_as_row⟩ := c_as_row
  obtain ⟨f_has_message, fd_has_message, c_has_message⟩ := c_has_message
  obtain ⟨f_room_of, fd_room_of, c_room_of⟩ := c_room_of
  have nd := sc_answer_room.nd
  refine F.ok sc_answer_room (fun vs H Q E h => ?_) (fun cdv Ar outer s H vs Q E hr h => ?_)
  · obtain ⟨a, ln, own, s, ns, rfl, ⟨dx, lm, ld, lt, kv, rfl, h⟩, hn, hl, nown, k⟩ := h; rfl
  obtain ⟨a, ln, own, s, ns, rfl, ⟨dx, lm, ld, lt, kv, rfl, h⟩, hn, hl, nown, k⟩ := h
  refine ⟨_, (pss_cons (ps_if (pt_not (pt_val (pe_call c_has_message.ok (hr.mono (by decide)) rfl c_has_message.gm c_has_message.kp c_has_message.b .nil pass0 (pa_cons (pv 0) (pa_cons (pe_ix ix_list (pv 1) pe_int (fun _ _ => rfl)) pa_nil)))))
 (pss_one (ps_ret (pe_lst (pa_cons (pe_cst rfl T.g_NO_MESSAGE) pa_nil))))
 pss_nil)
 (pss_one (ps_ret (pe_call c_as_row.ok (hr.mono (by decide)) rfl c_as_row.gm c_as_row.kp c_as_row.b .nil pass0 (pa_cons (pe_call c_room_of.ok (hr.mono (by decide)) rfl c_room_of.gm c_room_of.kp c_room_of.b .nil pass0 (pa_cons (pe_fld (pv 0) rfl) (pa_cons (pe_fld (pv 0) rfl) (pa_cons (pe_fld (pv 0) rfl) (pa_cons (pe_ix ix_list (pv 1) pe_int (fun _ _ => rfl)) pa_nil))))) pa_nil))))), ?_⟩
  have h1 := h.ob
  have D : DeskAt A H a (a :: lm :: ld :: lt :: kvA kv) s := ⟨dx, lm, ld, lt, kv, rfl, h⟩
  obtain ⟨m, rfl⟩ := len1 hl
  refine ⟨_, rfl, _, rfl, ln, _, 0, .int m, rfl, rfl, SqL.of hn, rfl, a, dx, lm, ld, lt, kv, s, m, rfl, h, _, rfl, ?_⟩
  refine ite2 (fun q => ?_) (fun q => ?_)
  · exact ⟨(by show 1 ≤ sizeLine; decide), fun p hp => spH_same (ans := [-4]) D k (by rw [call10]; unfold Vbavab.roomCall; rw [if_pos (notF q)]; rfl) (Same.put hp) upd_same hp⟩
  have q := notT q
  obtain ⟨n, rfl, hn2⟩ := isMsg_nat q
  have l63 := (h.ok.gm hn2).late63
  refine ⟨_, rfl, _, _, _, _, _, rfl, h1, T.clDesk, T.nDesk_messages, rfl, _, rfl, _, _, _, _, _, rfl, h1, T.clDesk, T.nDesk_demands, rfl, _, rfl, _, _, _, _, _, rfl, h1, T.clDesk, T.nDesk_table, rfl, _, rfl, ln, _, 0, .int (n : Nat), rfl, rfl, SqL.of hn, rfl, lm, ld, lt, s, n, rfl, h.ms, h.ds, h.tb, h.ok, h.tl, hn2, fun H1 p s1 hp => ?_⟩
  have rl := roomL_len s s.table n s.msgs.length
  refine ⟨p, _, rfl, hp, by rw [natV_len]; omega, fun H2 p2 s2 hp0 hp2 => spH_same D k (by rw [call10, roomCall_eq h.ok h.tl hn2]) (s1.trans s2) ?_ (s1.free hp0) ?_⟩
  · rw [hp2, row_natV, natV_len]
  · unfold Vbavab.row Vbavab.ints
    rw [List.length_cons, List.length_map]; omega
theorem ok_answer_at {f : Addr} {fd : FuncData} (F : Fun K "answer_at" "answer_at" s_answer_at f fd) (T : Txt K mg A) (c_message_at : CalX P w K mg base 3 "message_at" ["messages", "table", "bus", "time"] (sp_message_at K A)) (c_in_ranges : CalX P w K mg base 1 "in_ranges" ["numbers", "ranges"] (sp_in_ranges K A)) : FnOk P w K mg base CX0 4 f fd ["desk", "numbers"] (sp_answer_at K A) := by
  obtain ⟨f_message_at, fd_message_at, c_message_at⟩ := c_message_at
  obtain ⟨f_in_ranges, fd_in_ranges, c_in_ranges⟩ := c_in_ranges
  have nd := sc_answer_at.nd
  refine F.ok sc_answer_at (fun vs H Q E h => ?_) (fun cdv Ar outer s H vs Q E hr h => ?_)
  · obtain ⟨a, ln, own, s, ns, rfl, ⟨dx, lm, ld, lt, kv, rfl, h⟩, hn, hl, nown, k⟩ := h; rfl
  obtain ⟨a, ln, own, s, ns, rfl, ⟨dx, lm, ld, lt, kv, rfl, h⟩, hn, hl, nown, k⟩ := h
  refine ⟨_, (pss_cons (ps_if (pt_not (pt_val (pe_call c_in_ranges.ok (hr.mono (by decide)) rfl c_in_ranges.gm c_in_ranges.kp c_in_ranges.b .nil pass0 (pa_cons (pv 1) (pa_cons (pe_cst rfl T.g_BUS_AND_TIME_RANGES) pa_nil)))))
 (pss_one (ps_ret (pe_lst (pa_cons (pe_cst rfl T.g_OUT_OF_RANGE) pa_nil))))
 pss_nil)
 (pss_cons (ps_set (i := 2) nd rfl (Or.inl rfl) (pe_call c_message_at.ok (hr.mono (by decide)) rfl c_message_at.gm c_message_at.kp c_message_at.b .nil pass0 (pa_cons (pe_fld (pv 0) rfl) (pa_cons (pe_fld (pv 0) rfl) (pa_cons (pe_ix ix_list (pv 1) pe_int (fun _ _ => rfl)) (pa_cons (pe_ix ix_list (pv 1) pe_int (fun _ _ => rfl)) pa_nil))))))
 (pss_one (ps_ret (pe_ifExp (pt_cmpR op_isN (pv 2) pe_non (nomark _)) (pe_lst (pa_cons pe_int pa_nil)) (pe_lst (pa_cons pe_int (pa_cons (pv 2) pa_nil)))))))), ?_⟩
  have D : DeskAt A H a (a :: lm :: ld :: lt :: kvA kv) s := ⟨dx, lm, ld, lt, kv, rfl, h⟩
  obtain ⟨b, t, rfl⟩ := len2 hl
  refine ⟨_, rfl, ln, _, _, _, rfl, hn, T.r_BUS_AND_TIME_RANGES, rfl, fun H1 s1 => ⟨_, rfl, ?_⟩⟩
  rw [inAll2]
  have ec : (Vbavab.inR b 0 1 && Vbavab.inR t 0 1000000000000000000) = true → callF 11 s [b, t] = (s, match Vbavab.onAt s b.toNat t.toNat with
      | some i => [1, Int.ofNat i]
      | none => [0]) := fun q => by
    rw [call11]
    show (if (Vbavab.inR b 0 1 && Vbavab.inR t 0 1000000000000000000) = false then _ else _) = _
    rw [q, if_neg (by decide)]
    cases Vbavab.onAt s b.toNat t.toNat <;> rfl
  refine ite2 (fun q => ?_) (fun q => ?_)
  · refine ⟨(by show 1 ≤ sizeLine; decide), fun p hp => spH_same (ans := [-1]) D k ?_ (s1.new (s1.free hp)) upd_same (s1.free hp)⟩
    rw [call11]
    show (if (Vbavab.inR b 0 1 && Vbavab.inR t 0 1000000000000000000) = false then _ else _) = _
    rw [if_pos (notF q)]; rfl
  have q := notT q
  have ec := ec q
  rw [Bool.and_eq_true, inR_iff, inR_iff] at q
  obtain ⟨bn, rfl⟩ : ∃ n : Nat, b = (n : Nat) := ⟨b.toNat, by omega⟩
  obtain ⟨tn, rfl⟩ : ∃ n : Nat, t = (n : Nat) := ⟨t.toNat, by omega⟩
  rw [Int.toNat_natCast, Int.toNat_natCast] at ec
  have h2 := h.keep s1
  have g2 := h2.ob
  have hn2 := s1 _ _ hn
  refine ⟨_, rfl, _, _, _, _, _, rfl, g2, T.clDesk, T.nDesk_messages, rfl, _, rfl, _, _, _, _, _, rfl, g2, T.clDesk, T.nDesk_table, rfl, _, rfl, ln, _, 0, .int (bn : Nat), rfl, rfl, SqL.of hn2, rfl, _, rfl, ln, _, 1, .int (tn : Nat), rfl, rfl, SqL.of hn2, rfl, lm, lt, s, bn, tn, rfl, h2.ms, h2.tb, h.ok, h.tl, fun H2 s2 => ?_⟩
  have s12 : Same H H2 := s1.trans s2
  refine ⟨_, rfl, rfl, _, rfl, ?_⟩
  cases e : Vbavab.onAt s bn tn with
  | none =>
    rw [e] at ec
    exact iteT ⟨(by show 1 ≤ sizeLine; decide), fun p hp => spH_same (ans := [0]) D k ec (s12.new (s12.free hp)) upd_same (s12.free hp)⟩
  | some i =>
    rw [e] at ec
    exact iteF ⟨_, rfl, (by show 2 ≤ sizeLine; decide), fun p hp => spH_same (ans := [1, (i : Int)]) D k ec (s12.new (s12.free hp)) upd_same (s12.free hp)⟩
theorem ok_answer_next {f : Addr} {fd : FuncData} (F : Fun K "answer_next" "answer_next" s_answer_next f fd) (T : Txt K mg A) (c_next_message : CalX P w K mg base 3 "next_message" ["messages", "table", "bus", "time"] (sp_next_message K A)) (c_in_ranges : CalX P w K mg base 1 "in_ranges" ["numbers", "ranges"] (sp_in_ranges K A)) : FnOk P w K mg base CX0 4 f fd ["desk", "numbers"] (sp_answer_next K A) := by
  obtain ⟨f_next_message, fd_next_message, c_next_message⟩ := c_next_message
  obtain ⟨f_in_ranges, fd_in_ranges, c_in_ranges⟩ := c_in_ranges
  have nd := sc_answer_next.nd
  refine F.ok sc_answer_next (fun vs H Q E h => ?_) (fun cdv Ar outer s H vs Q E hr h => ?_)
  · obtain ⟨a, ln, own, s, ns, rfl, ⟨dx, lm, ld, lt, kv, rfl, h⟩, hn, hl, nown, k⟩ := h; rfl
  obtain ⟨a, ln, own, s, ns, rfl, ⟨dx, lm, ld, lt, kv, rfl, h⟩, hn, hl, nown, k⟩ := h
  refine ⟨_, (pss_cons (ps_if (pt_not (pt_val (pe_call c_in_ranges.ok (hr.mono (by decide)) rfl c_in_ranges.gm c_in_ranges.kp c_in_ranges.b .nil pass0 (pa_cons (pv 1) (pa_cons (pe_cst rfl T.g_BUS_AND_TIME_RANGES) pa_nil)))))
 (pss_one (ps_ret (pe_lst (pa_cons (pe_cst rfl T.g_OUT_OF_RANGE) pa_nil))))
 pss_nil)
 (pss_cons (ps_set (i := 2) nd rfl (Or.inl rfl) (pe_call c_next_message.ok (hr.mono (by decide)) rfl c_next_message.gm c_next_message.kp c_next_message.b .nil pass0 (pa_cons (pe_fld (pv 0) rfl) (pa_cons (pe_fld (pv 0) rfl) (pa_cons (pe_ix ix_list (pv 1) pe_int (fun _ _ => rfl)) (pa_cons (pe_ix ix_list (pv 1) pe_int (fun _ _ => rfl)) pa_nil))))))
 (pss_one (ps_ret (pe_ifExp (pt_cmpR op_isN (pv 2) pe_non (nomark _)) (pe_lst (pa_cons (pe_cst rfl T.g_NONE_THERE) pa_nil)) (pv 2)))))), ?_⟩
  have D : DeskAt A H a (a :: lm :: ld :: lt :: kvA kv) s := ⟨dx, lm, ld, lt, kv, rfl, h⟩
  obtain ⟨b, t, rfl⟩ := len2 hl
  refine ⟨_, rfl, ln, _, _, _, rfl, hn, T.r_BUS_AND_TIME_RANGES, rfl, fun H1 s1 => ⟨_, rfl, ?_⟩⟩
  rw [inAll2]
  have ec : (Vbavab.inR b 0 1 && Vbavab.inR t 0 1000000000000000000) = true → callF 12 s [b, t] = (match Vbavab.nextOn s b.toNat t.toNat with
      | none => Vbavab.no s 6
      | some p => (s, Vbavab.ints [p.1, t.toNat + p.2])) := fun q => by
    rw [call12]
    show (if (Vbavab.inR b 0 1 && Vbavab.inR t 0 1000000000000000000) = false then _ else _) = _
    rw [q, if_neg (by decide)]
    cases Vbavab.nextOn s b.toNat t.toNat <;> rfl
  refine ite2 (fun q => ?_) (fun q => ?_)
  · refine ⟨(by show 1 ≤ sizeLine; decide), fun p hp => spH_same (ans := [-1]) D k ?_ (s1.new (s1.free hp)) upd_same (s1.free hp)⟩
    rw [call12]
    show (if (Vbavab.inR b 0 1 && Vbavab.inR t 0 1000000000000000000) = false then _ else _) = _
    rw [if_pos (notF q)]; rfl
  have q := notT q
  have ec := ec q
  rw [Bool.and_eq_true, inR_iff, inR_iff] at q
  obtain ⟨bn, rfl⟩ : ∃ n : Nat, b = (n : Nat) := ⟨b.toNat, by omega⟩
  obtain ⟨tn, rfl⟩ : ∃ n : Nat, t = (n : Nat) := ⟨t.toNat, by omega⟩
  rw [Int.toNat_natCast, Int.toNat_natCast] at ec
  have h2 := h.keep s1
  have g2 := h2.ob
  have hn2 := s1 _ _ hn
  have ne := nextOn_eq h.ok bn tn
  refine ⟨_, rfl, _, _, _, _, _, rfl, g2, T.clDesk, T.nDesk_messages, rfl, _, rfl, _, _, _, _, _, rfl, g2, T.clDesk, T.nDesk_table, rfl, _, rfl, ln, _, 0, .int (bn : Nat), rfl, rfl, SqL.of hn2, rfl, _, rfl, ln, _, 1, .int (tn : Nat), rfl, rfl, SqL.of hn2, rfl, lm, lt, s, bn, tn, rfl, h2.ms, h2.tb, h.ok, h.tl, fun H2 s2 => ⟨fun e => ?_, fun j p e hp0 hp => ?_⟩⟩
  · have s12 : Same H H2 := s1.trans s2
    rw [e] at ne
    cases en : Vbavab.nextOn s bn tn with
    | some p => rw [en] at ne; cases ne
    | none =>
      rw [en] at ec
      exact ⟨_, rfl, rfl, _, rfl, iteT ⟨(by show 1 ≤ sizeLine; decide), fun p hp => spH_same (ans := [-6]) D k ec (s12.new (s12.free hp)) upd_same (s12.free hp)⟩⟩
  · have s12 : Same H H2 := s1.trans s2
    rw [e] at ne
    cases en : Vbavab.nextOn s bn tn with
    | none => rw [en] at ne; cases ne
    | some pr =>
      rw [en] at ne ec
      have ne : (pr.1, ((pr.2 : Nat) : Int)) = (j, waitI s tn j) := Option.some.inj ne
      injection ne with n1 n2
      refine ⟨_, rfl, rfl, _, rfl, iteF ⟨_, rfl, spH_same D k ec s12 ?_ (s1.free hp0)⟩⟩
      rw [hp, ← n2, ← n1]
      rfl
theorem ok_answer_load {f : Addr} {fd : FuncData} (F : Fun K "answer_load" "answer_load" s_answer_load f fd) (T : Txt K mg A) (c_bus_load : CalX P w K mg base 3 "bus_load" ["messages", "bus"] (sp_bus_load K A)) (c_in_ranges : CalX P w K mg base 1 "in_ranges" ["numbers", "ranges"] (sp_in_ranges K A)) : FnOk P w K mg base CX0 4 f fd ["desk", "numbers"] (sp_answer_load K A) := by
  obtain ⟨f_bus_load, fd_bus_load, c_bus_load⟩ := c_bus_load
  obtain ⟨f_in_ranges, fd_in_ranges, c_in_ranges⟩ := c_in_ranges
  have nd := sc_answer_load.nd
  refine F.ok sc_answer_load (fun vs H Q E h => ?_) (fun cdv Ar outer s H vs Q E hr h => ?_)
  · obtain ⟨a, ln, own, s, ns, rfl, ⟨dx, lm, ld, lt, kv, rfl, h⟩, hn, hl, nown, k⟩ := h; rfl
  obtain ⟨a, ln, own, s, ns, rfl, ⟨dx, lm, ld, lt, kv, rfl, h⟩, hn, hl, nown, k⟩ := h
  refine ⟨_, (pss_cons (ps_if (pt_not (pt_val (pe_call c_in_ranges.ok (hr.mono (by decide)) rfl c_in_ranges.gm c_in_ranges.kp c_in_ranges.b .nil pass0 (pa_cons (pv 1) (pa_cons (pe_cst rfl T.g_BUS_RANGES) pa_nil)))))
 (pss_one (ps_ret (pe_lst (pa_cons (pe_cst rfl T.g_OUT_OF_RANGE) pa_nil))))
 pss_nil)
 (pss_one (ps_ret (pe_call c_bus_load.ok (hr.mono (by decide)) rfl c_bus_load.gm c_bus_load.kp c_bus_load.b .nil pass0 (pa_cons (pe_fld (pv 0) rfl) (pa_cons (pe_ix ix_list (pv 1) pe_int (fun _ _ => rfl)) pa_nil)))))), ?_⟩
  have D : DeskAt A H a (a :: lm :: ld :: lt :: kvA kv) s := ⟨dx, lm, ld, lt, kv, rfl, h⟩
  obtain ⟨b, rfl⟩ := len1 hl
  refine ⟨_, rfl, ln, _, _, _, rfl, hn, T.r_BUS_RANGES, rfl, fun H1 s1 => ⟨_, rfl, ?_⟩⟩
  rw [inAll1]
  refine ite2 (fun q => ?_) (fun q => ?_)
  · refine ⟨(by show 1 ≤ sizeLine; decide), fun p hp => spH_same (ans := [-1]) D k ?_ (s1.new (s1.free hp)) upd_same (s1.free hp)⟩
    rw [call13]
    show (if Vbavab.inR b 0 1 = false then _ else _) = _
    rw [if_pos (notF q)]; rfl
  have q := notT q
  obtain ⟨bn, rfl⟩ : ∃ n : Nat, b = (n : Nat) := ⟨b.toNat, by have := inR_iff.mp q; omega⟩
  have ec : callF 13 s [(bn : Int)] = (s, Vbavab.fraction (loadL (Vbavab.roundOf (onM bn s.msgs)) (onM bn s.msgs)) (Vbavab.roundOf (onM bn s.msgs))) := by
    rw [call13]
    show (if Vbavab.inR bn 0 1 = false then _ else (s, Vbavab.fraction (Vbavab.loadOf s ((bn : Int)).toNat) (Vbavab.roundOf s.msgs))) = _
    rw [q, if_neg (by decide), Int.toNat_natCast, load_eq h.ok]
    rfl
  have h2 := h.keep s1
  have g2 := h2.ob
  exact ⟨_, rfl, _, _, _, _, _, rfl, g2, T.clDesk, T.nDesk_messages, rfl, _, rfl, ln, _, 0, .int (bn : Nat), rfl, rfl, SqL.of (s1 _ _ hn), rfl, lm, s.msgs, bn, rfl, h2.ms, h.ok.m, h.ok.n8, fun H2 p s2 hp0 hp => spH_same D k ec (s1.trans s2) hp (s1.free hp0)⟩
theorem ok_answer_free {f : Addr} {fd : FuncData} (F : Fun K "answer_free" "answer_free" s_answer_free f fd) (T : Txt K mg A) (c_taken_slots : CalX P w K mg base 3 "taken_slots" ["messages", "table", "bus"] (sp_taken_slots K A)) (c_in_ranges : CalX P w K mg base 1 "in_ranges" ["numbers", "ranges"] (sp_in_ranges K A)) (c_round_length : CalX P w K mg base 2 "round_length" ["messages"] (sp_round_length K A)) (c_longest_free_run : CalX P w K mg base 1 "longest_free_run" ["taken"] (sp_longest_free_run K A)) : FnOk P w K mg base CX0 4 f fd ["desk", "numbers"] (sp_answer_free K A) := by
  obtain ⟨f_taken_slots, fd_taken_slots, c_taken_slots⟩ := c_taken_slots
  obtain ⟨f_in_ranges, fd_in_ranges, c_in_ranges⟩ := c_in_ranges
  obtain ⟨f_round_length, fd_round_length, c_round_length⟩ := c_round_length
  obtain ⟨f_longest_free_run, fd_longest_free_run, c_longest_free_run⟩ := c_longest_free_run
  have nd := sc_answer_free.nd
  refine F.ok sc_answer_free (fun vs H Q E h => ?_) (fun cdv Ar outer s H vs Q E hr h => ?_)
  · obtain ⟨a, ln, own, s, ns, rfl, ⟨dx, lm, ld, lt, kv, rfl, h⟩, hn, hl, nown, k⟩ := h; rfl
  obtain ⟨a, ln, own, s, ns, rfl, ⟨dx, lm, ld, lt, kv, rfl, h⟩, hn, hl, nown, k⟩ := h
  refine ⟨_, (pss_cons (ps_if (pt_not (pt_val (pe_call c_in_ranges.ok (hr.mono (by decide)) rfl c_in_ranges.gm c_in_ranges.kp c_in_ranges.b .nil pass0 (pa_cons (pv 1) (pa_cons (pe_cst rfl T.g_BUS_RANGES) pa_nil)))))
 (pss_one (ps_ret (pe_lst (pa_cons (pe_cst rfl T.g_OUT_OF_RANGE) pa_nil))))
 pss_nil)
 (pss_cons (ps_if (pt_cmpR op_gt (pe_call c_round_length.ok (hr.mono (by decide)) rfl c_round_length.gm c_round_length.kp c_round_length.b .nil pass0 (pa_cons (pe_fld (pv 0) rfl) pa_nil)) (pe_cst rfl T.g_LONGEST_ROUND) (nomark _))
 (pss_one (ps_ret (pe_lst (pa_cons (pe_cst rfl T.g_TOO_LONG) pa_nil))))
 pss_nil)
 (pss_cons (ps_set (i := 2) nd rfl (Or.inl rfl) (pe_call c_taken_slots.ok (hr.mono (by decide)) rfl c_taken_slots.gm c_taken_slots.kp c_taken_slots.b .nil pass0 (pa_cons (pe_fld (pv 0) rfl) (pa_cons (pe_fld (pv 0) rfl) (pa_cons (pe_ix ix_list (pv 1) pe_int (fun _ _ => rfl)) pa_nil)))))
 (pss_one (ps_ret (pe_lst (pa_cons (pe_bm PySem.F.plainAttrs_list PySem.F.slot_list_count PySem.F.type_list_count mt_countB (pv 2) (pa_cons pe_bl pa_nil)) (pa_cons (pe_callB call_len_seq (by rfl) T.len PySem.boot_len (pa_cons (pv 2) pa_nil)) (pa_cons (pe_call c_longest_free_run.ok (hr.mono (by decide)) rfl c_longest_free_run.gm c_longest_free_run.kp c_longest_free_run.b .nil pass0 (pa_cons (pv 2) pa_nil)) pa_nil))))))))), ?_⟩
  have D : DeskAt A H a (a :: lm :: ld :: lt :: kvA kv) s := ⟨dx, lm, ld, lt, kv, rfl, h⟩
  obtain ⟨b, rfl⟩ := len1 hl
  refine ⟨_, rfl, ln, _, _, _, rfl, hn, T.r_BUS_RANGES, rfl, fun H1 s1 => ⟨_, rfl, ?_⟩⟩
  rw [inAll1]
  refine ite2 (fun q => ?_) (fun q => ?_)
  · refine ⟨(by show 1 ≤ sizeLine; decide), fun p hp => spH_same (ans := [-1]) D k ?_ (s1.new (s1.free hp)) upd_same (s1.free hp)⟩
    rw [call14]
    show (if Vbavab.inR b 0 1 = false then _ else _) = _
    rw [if_pos (notF q)]; rfl
  have q := notT q
  obtain ⟨bn, rfl⟩ : ∃ n : Nat, b = (n : Nat) := ⟨b.toNat, by have := inR_iff.mp q; omega⟩
  have ec : callF 14 s [(bn : Int)] = (if 5000 < Vbavab.roundOf s.msgs then Vbavab.no s 12 else (s, Vbavab.ints [Vbavab.freeSlots s bn, Vbavab.roundOf s.msgs, Vbavab.longestRun s bn])) := by
    rw [call14]
    show (if Vbavab.inR bn 0 1 = false then _ else _) = _
    rw [q, if_neg (by decide), Int.toNat_natCast]
  have h2 := h.keep s1
  have g2 := h2.ob
  refine ⟨_, rfl, _, _, _, _, _, rfl, g2, T.clDesk, T.nDesk_messages, rfl, lm, s.msgs, rfl, h2.ms, h.ok.m, _, _, rfl, rfl, _, rfl, ?_⟩
  refine ite2 (fun z => ?_) (fun z => ?_)
  · have z : (5000 : Int) < (Vbavab.roundOf s.msgs : Nat) := of_decide_eq_true z
    rw [if_pos (by omega)] at ec
    exact ⟨(by show 1 ≤ sizeLine; decide), fun p hp => spH_same (ans := [-12]) D k ec (s1.new (s1.free hp)) upd_same (s1.free hp)⟩
  have z : ¬ (5000 : Int) < (Vbavab.roundOf s.msgs : Nat) := fun y => z (decide_eq_true y)
  rw [if_neg (by omega)] at ec
  refine ⟨_, rfl, _, _, _, _, _, rfl, g2, T.clDesk, T.nDesk_messages, rfl, _, rfl, _, _, _, _, _, rfl, g2, T.clDesk, T.nDesk_table, rfl, _, rfl, ln, _, 0, .int (bn : Nat), rfl, rfl, SqL.of (s1 _ _ hn), rfl, lm, lt, s, bn, rfl, h2.ms, h2.tb, h.ok, h.tl, h.tw, by omega, fun H2 p s2 hp => ?_⟩
  have e1 := freeSlots_eq h.ok bn
  have e2 := longest_eq h.ok bn
  have e3 : ((List.range (Vbavab.roundOf s.msgs)).map (takenF s (putOn s bn s.msgs.length))).length = Vbavab.roundOf s.msgs := by rw [List.length_map, List.length_range]
  generalize (List.range (Vbavab.roundOf s.msgs)).map (takenF s (putOn s bn s.msgs.length)) = bs at hp e1 e2 e3
  have s12 : Same H H2 := s1.trans s2
  refine ⟨_, rfl, .inl ⟨rfl, _, SqL.of hp⟩, p, bs, false, rfl, rfl, SqL.of hp, _, rfl, _, _, rfl, .inl (SqL.of hp), _, rfl, p, bs, rfl, hp, by omega, fun H3 s3 => ⟨(by show 3 ≤ sizeLine; decide), fun r hr => ?_⟩⟩
  have s13 : Same H H3 := s12.trans s3
  refine spH_same D k ec (s13.new (s13.free hr)) ?_ (s13.free hr)
  rw [upd_same, e1, e2, e3, List.length_map, e3]
  rfl
theorem ok_answer_wait {f : Addr} {fd : FuncData} (F : Fun K "answer_wait" "answer_wait" s_answer_wait f fd) (T : Txt K mg A) (c_longest_wait : CalX P w K mg base 2 "longest_wait" ["ending", "coming", "lead"] (sp_longest_wait K A)) (c_has_message : CalX P w K mg base 1 "has_message" ["desk", "number"] (sp_has_message K A)) : FnOk P w K mg base CX0 3 f fd ["desk", "numbers"] (sp_answer_wait K A) := by
  obtain ⟨f_longest_wait, fd_longest_wait, c_longest_wait⟩ := c_longest_wait
  obtain ⟨f_has_message, fd_has_message, c_has_message⟩ := c_has_message
  have nd := sc_answer_wait.nd
  refine F.ok sc_answer_wait (fun vs H Q E h => ?_) (fun cdv Ar outer s H vs Q E hr h => ?_)
  · obtain ⟨a, ln, own, s, ns, rfl, ⟨dx, lm, ld, lt, kv, rfl, h⟩, hn, hl, nown, k⟩ := h; rfl
  obtain ⟨a, ln, own, s, ns, rfl, ⟨dx, lm, ld, lt, kv, rfl, h⟩, hn, hl, nown, k⟩ := h
  refine ⟨_, (pss_cons (ps_set (i := 2) nd rfl (Or.inl rfl) (pe_ix ix_list (pv 1) pe_int (fun _ _ => rfl)))
 (pss_cons (ps_set (i := 3) nd rfl (Or.inl rfl) (pe_ix ix_list (pv 1) pe_int (fun _ _ => rfl)))
 (pss_cons (ps_if (PW.pt (pw_or (pt_not (pt_val (pe_call c_has_message.ok (hr.mono (by decide)) rfl c_has_message.gm c_has_message.kp c_has_message.b .nil pass0 (pa_cons (pv 0) (pa_cons (pv 2) pa_nil))))) (pw_or1 (pt_not (pt_val (pe_call c_has_message.ok (hr.mono (by decide)) rfl c_has_message.gm c_has_message.kp c_has_message.b .nil pass0 (pa_cons (pv 0) (pa_cons (pv 3) pa_nil))))))))
 (pss_one (ps_ret (pe_lst (pa_cons (pe_cst rfl T.g_NO_MESSAGE) pa_nil))))
 pss_nil)
 (pss_cons (ps_if (PW.pt (pw_or (pt_cmpR op_eq (pe_ix ix_list (pe_fld (pv 0) rfl) (pv 2) (fun _ _ => rfl)) (pe_cst rfl T.g_NOT_PUT) (nomark _)) (pw_or1 (pt_cmpR op_eq (pe_ix ix_list (pe_fld (pv 0) rfl) (pv 3) (fun _ _ => rfl)) (pe_cst rfl T.g_NOT_PUT) (nomark _)))))
 (pss_one (ps_ret (pe_lst (pa_cons (pe_cst rfl T.g_NOTHING_PUT) pa_nil))))
 pss_nil)
 (pss_cons (ps_set (i := 4) nd rfl (Or.inl rfl) (pe_op op_sub (pe_ix ix_list (pe_fld (pv 0) rfl) (pv 3) (fun _ _ => rfl)) (pe_ix ix_list (pe_fld (pv 0) rfl) (pv 2) (fun _ _ => rfl))))
 (pss_one (ps_ret (pe_lst (pa_cons (pe_call c_longest_wait.ok (hr.mono (by decide)) rfl c_longest_wait.gm c_longest_wait.kp c_longest_wait.b .nil pass0 (pa_cons (pe_ix ix_list (pe_fld (pv 0) rfl) (pv 2) (fun _ _ => rfl)) (pa_cons (pe_ix ix_list (pe_fld (pv 0) rfl) (pv 3) (fun _ _ => rfl)) (pa_cons (pv 4) pa_nil)))) pa_nil))))))))), ?_⟩
  have h1 := h.ob
  have D : DeskAt A H a (a :: lm :: ld :: lt :: kvA kv) s := ⟨dx, lm, ld, lt, kv, rfl, h⟩
  obtain ⟨x, y, rfl⟩ := len2 hl
  have ec : callF 15 s [x, y] = (if (Vbavab.isMsg s x && Vbavab.isMsg s y) = false then Vbavab.no s 4 else match Vbavab.beginOf s.table x.toNat, Vbavab.beginOf s.table y.toNat with
    | some u, some v => (s, [Int.ofNat (Vbavab.worstWait (Vbavab.msgOf s x.toNat) u (Vbavab.msgOf s y.toNat) v)])
    | _, _ => Vbavab.no s 7) := by rw [call15]; rfl
  refine ⟨_, rfl, ln, _, 0, .int x, rfl, rfl, SqL.of hn, rfl, ?_⟩
  refine ⟨_, rfl, ln, _, 1, .int y, rfl, rfl, SqL.of hn, rfl, ?_⟩
  refine ⟨_, rfl, _, rfl, a, dx, lm, ld, lt, kv, s, x, rfl, h, _, rfl, ?_⟩
  refine ite2 (fun q => ?_) (fun q => ?_)
  · rw [notF q, Bool.false_and, if_pos rfl] at ec
    exact iteT ⟨(by show 1 ≤ sizeLine; decide), fun p hp => spH_same (ans := [-4]) D k ec (Same.put hp) upd_same hp⟩
  have q := notT q
  rw [q, Bool.true_and] at ec
  refine ⟨_, rfl, _, rfl, a, dx, lm, ld, lt, kv, s, y, rfl, h, _, rfl, ?_⟩
  refine ite2 (fun q2 => ?_) (fun q2 => ?_)
  · rw [notF q2, if_pos rfl] at ec
    exact ⟨(by show 1 ≤ sizeLine; decide), fun p hp => spH_same (ans := [-4]) D k ec (Same.put hp) upd_same hp⟩
  have q2 := notT q2
  rw [q2, if_neg (by decide)] at ec
  obtain ⟨i, rfl, hi⟩ := isMsg_nat q
  obtain ⟨j, rfl, hj⟩ := isMsg_nat q2
  rw [Int.toNat_natCast, Int.toNat_natCast] at ec
  have hit : i < s.table.length := by rw [h.tl]; exact hi
  have hjt : j < s.table.length := by rw [h.tl]; exact hj
  have ep : ∀ o : Option Nat, decide (V.int (slotI o) = V.int (-1)) = !o.isSome := fun o => by
    rw [← ne_put, Bool.not_not]
  refine ⟨_, rfl, _, _, _, _, _, rfl, h1, T.clDesk, T.nDesk_table, rfl, _, rfl, _, _, _, _, rfl, rfl, SqL.of h.tb, (at_int (tabI_at hit)), rfl, _, rfl, ?_⟩
  show if decide (V.int (slotI (Vbavab.beginOf s.table i)) = V.int (-1)) = true then _ else _
  rw [ep]
  cases ei : Vbavab.beginOf s.table i with
  | none =>
    rw [ei] at ec
    exact iteT (iteT ⟨(by show 1 ≤ sizeLine; decide), fun p hp => spH_same (ans := [-7]) D k ec (Same.put hp) upd_same hp⟩)
  | some u =>
    refine iteF ?_
    refine ⟨_, rfl, _, _, _, _, _, rfl, h1, T.clDesk, T.nDesk_table, rfl, _, rfl, _, _, _, _, rfl, rfl, SqL.of h.tb, (at_int (tabI_at hjt)), rfl, _, rfl, ?_⟩
    show if decide (V.int (slotI (Vbavab.beginOf s.table j)) = V.int (-1)) = true then _ else _
    rw [ep]
    cases ej : Vbavab.beginOf s.table j with
    | none =>
      rw [ei, ej] at ec
      exact iteT ⟨(by show 1 ≤ sizeLine; decide), fun p hp => spH_same (ans := [-7]) D k ec (Same.put hp) upd_same hp⟩
    | some v =>
      rw [ei, ej] at ec
      refine iteF ?_
      obtain ⟨ms, hms, hmn, hat⟩ := h.ms.adr
      obtain ⟨a1, dx1, e1, g1⟩ := hat i hi
      obtain ⟨a2, dx2, e2, g2⟩ := hat j hj
      refine ⟨_, rfl, _, _, _, _, _, rfl, h1, T.clDesk, T.nDesk_table, rfl, _, rfl, _, _, _, _, rfl, rfl, SqL.of h.tb, (at_int (tabI_at hjt)), _, rfl, _, _, _, _, _, rfl, h1, T.clDesk, T.nDesk_table, rfl, _, rfl, _, _, _, _, rfl, rfl, SqL.of h.tb, (at_int (tabI_at hit)), _, _, rfl, rfl, ?_⟩
      refine ⟨_, rfl, _, _, _, _, _, rfl, h1, T.clDesk, T.nDesk_messages, rfl, _, rfl, _, _, _, _, rfl, rfl, SqL.of hms, (at_ref e1), _, rfl, _, _, _, _, _, rfl, h1, T.clDesk, T.nDesk_messages, rfl, _, rfl, _, _, _, _, rfl, rfl, SqL.of hms, (at_ref e2), _, rfl, a1, a2, _, _, _, rfl, ⟨dx1, g1⟩, ⟨dx2, g2⟩, h.ok.gm hi, h.ok.gm hj, (by show 1 ≤ sizeLine; decide), fun p hp => spH_same D k ec (Same.put hp) ?_ hp⟩
      rw [upd_same]
      have ew := wait_eq (h.ok.gm hi).p1 (h.ok.gm hj).p1 u v
      rw [ei, ej]
      show some (HO.lst [V.int _]) = some (HO.lst [V.int ((Vbavab.worstWait (gm s.msgs i) u (gm s.msgs j) v : Nat) : Int)])
      rw [ew]
      rfl
theorem ok_answer_steps {f : Addr} {fd : FuncData} (F : Fun K "answer_steps" "answer_steps" s_answer_steps f fd) (T : Txt K mg A) (c_move_order : CalX P w K mg base 6 "move_order" ["messages", "demands", "start", "goal"] (sp_move_order K A)) (c_as_row : CalX P w K mg base 1 "as_row" ["numbers"] (sp_as_row K A)) (c_is_good : CalX P w K mg base 6 "is_good" ["desk", "table"] (sp_is_good K A)) : FnOk P w K mg base CX0 7 f fd ["desk", "numbers"] (sp_answer_steps K A) := by
  obtain ⟨f_move_order, fd_move_order, c_move_order⟩ := c_move_order
  obtain ⟨f_as_row, fd_as_row, c_as_row⟩ := c_as_row
  obtain ⟨f_is_good, fd_is_good, c_is_good⟩ := c_is_good
  have nd := sc_answer_steps.nd
  refine F.ok sc_answer_steps (fun vs H Q E h => ?_) (fun cdv Ar outer s H vs Q E hr h => ?_)
  · obtain ⟨a, ln, own, s, ns, rfl, ⟨dx, lm, ld, lt, kv, rfl, h⟩, hn, hl, nown, k⟩ := h; rfl
  obtain ⟨a, ln, own, s, ns, rfl, ⟨dx, lm, ld, lt, kv, rfl, h⟩, hn, hl, nown, k⟩ := h
  refine ⟨_, (pss_cons (ps_if (pt_cmpR op_isN (pe_fld (pv 0) rfl) pe_non (nomark _))
 (pss_one (ps_ret (pe_lst (pa_cons (pe_cst rfl T.g_NOTHING_PUT) pa_nil))))
 pss_nil)
 (pss_cons (ps_if (PW.pt (pw_or (pt_not (pt_val (pe_call c_is_good.ok (hr.mono (by decide)) rfl c_is_good.gm c_is_good.kp c_is_good.b .nil pass0 (pa_cons (pv 0) (pa_cons (pe_fld (pv 0) rfl) pa_nil))))) (pw_or1 (pt_not (pt_val (pe_call c_is_good.ok (hr.mono (by decide)) rfl c_is_good.gm c_is_good.kp c_is_good.b .nil pass0 (pa_cons (pv 0) (pa_cons (pe_fld (pv 0) rfl) pa_nil))))))))
 (pss_one (ps_ret (pe_lst (pa_cons (pe_cst rfl T.g_NOT_GOOD) pa_nil))))
 pss_nil)
 (pss_cons (ps_set (i := 2) nd rfl (Or.inl rfl) (pe_call c_move_order.ok (hr.mono (by decide)) rfl c_move_order.gm c_move_order.kp c_move_order.b .nil pass0 (pa_cons (pe_fld (pv 0) rfl) (pa_cons (pe_fld (pv 0) rfl) (pa_cons (pe_fld (pv 0) rfl) (pa_cons (pe_fld (pv 0) rfl) pa_nil))))))
 (pss_one (ps_ret (pe_ifExp (pt_cmpR op_isN (pv 2) pe_non (nomark _)) (pe_lst (pa_cons (pe_cst rfl T.g_NONE_THERE) pa_nil)) (pe_call c_as_row.ok (hr.mono (by decide)) rfl c_as_row.gm c_as_row.kp c_as_row.b .nil pass0 (pa_cons (pv 2) pa_nil)))))))), ?_⟩
  have h1 := h.ob
  have D : DeskAt A H a (a :: lm :: ld :: lt :: kvA kv) s := ⟨dx, lm, ld, lt, kv, rfl, h⟩
  have e0 : ns = [] := List.eq_nil_of_length_eq_zero hl
  subst e0
  have ec : callF 9 s [] = Vbavab.stepsCall s := call9 s
  unfold Vbavab.stepsCall at ec
  refine ⟨_, rfl, _, _, _, _, _, rfl, h1, T.clDesk, T.nDesk_kept, rfl, rfl, _, rfl, ?_⟩
  rcases h.kp with ⟨rfl, e1, e2⟩ | ⟨lk, rfl, hk, hkl⟩
  · have z : decide (s.kept.length = s.msgs.length) = false := decide_eq_false fun y => e2 (List.eq_nil_of_length_eq_zero (by rw [← y, e1]; rfl))
    rw [if_pos z] at ec
    exact iteT ⟨(by show 1 ≤ sizeLine; decide), fun p hp => spH_same (ans := [-7]) D k ec (Same.put hp) upd_same hp⟩
  rw [if_neg (by rw [decide_eq_true hkl]; decide)] at ec
  refine iteF ?_
  refine ⟨_, rfl, _, rfl, _, _, _, _, _, rfl, h1, T.clDesk, T.nDesk_kept, rfl, a, lk, dx, lm, ld, lt, _, s, s.kept, rfl, h, hk, hkl, fun H1 s1 => ⟨_, rfl, ?_⟩⟩
  have h2 := h.keep s1
  have g2 := h2.ob
  refine ite2 (fun q => ?_) (fun q => ?_)
  · rw [notF q, Bool.false_and, if_pos rfl] at ec
    exact iteT ⟨(by show 1 ≤ sizeLine; decide), fun p hp => spH_same (ans := [-11]) D k ec (s1.new (s1.free hp)) upd_same (s1.free hp)⟩
  have q := notT q
  rw [q, Bool.true_and] at ec
  refine ⟨_, rfl, _, rfl, _, _, _, _, _, rfl, g2, T.clDesk, T.nDesk_table, rfl, a, lt, dx, lm, ld, lt, _, s, s.table, rfl, h2, h2.tb, h.tl, fun H2 s2 => ⟨_, rfl, ?_⟩⟩
  have s12 : Same H H2 := s1.trans s2
  have h3 := h.keep s12
  have g3 := h3.ob
  refine ite2 (fun q2 => ?_) (fun q2 => ?_)
  · rw [notF q2, if_pos rfl] at ec
    exact ⟨(by show 1 ≤ sizeLine; decide), fun p hp => spH_same (ans := [-11]) D k ec (s12.new (s12.free hp)) upd_same (s12.free hp)⟩
  have q2 := notT q2
  rw [q2, if_neg (by decide), order_all h.ok q q2 hkl] at ec
  refine ⟨_, rfl, _, _, _, _, _, rfl, g3, T.clDesk, T.nDesk_messages, rfl, _, rfl, _, _, _, _, _, rfl, g3, T.clDesk, T.nDesk_demands, rfl, _, rfl, _, _, _, _, _, rfl, g3, T.clDesk, T.nDesk_kept, rfl, _, rfl, _, _, _, _, _, rfl, g3, T.clDesk, T.nDesk_table, rfl, lm, ld, lk, lt, s, s.kept, s.table, rfl, h3.ms, h3.ds, s12 _ _ hk, h3.tb, h.ok, hkl, h.tl, fun H3 s3 => ⟨fun e => ?_, fun l p e hp => ?_⟩⟩
  · have s13 : Same H H3 := s12.trans s3
    rw [e] at ec
    exact ⟨_, rfl, rfl, _, rfl, iteT ⟨(by show 1 ≤ sizeLine; decide), fun p hp => spH_same (ans := [-6]) D k ec (s13.new (s13.free hp)) upd_same (s13.free hp)⟩⟩
  · have s13 : Same H H3 := s12.trans s3
    rw [e] at ec
    have ll : l.length ≤ 8 := Nat.le_trans (greedy_len e) h.ok.n8
    refine ⟨_, rfl, rfl, _, rfl, iteF ⟨_, rfl, p, _, rfl, hp, by rw [natV_len]; omega, fun H4 p4 s4 hp0 hp4 => spH_same D k ec (s13.trans s4) ?_ (s13.free hp0) ?_⟩⟩
    · rw [hp4, row_natV, natV_len]
    · unfold Vbavab.row Vbavab.ints
      rw [List.length_cons, List.length_map]; omega
theorem ok_answer_state {f : Addr} {fd : FuncData} (F : Fun K "answer_state" "answer_state" s_answer_state f fd) (T : Txt K mg A) (c_as_row : CalX P w K mg base 1 "as_row" ["numbers"] (sp_as_row K A)) : FnOk P w K mg base CX0 2 f fd ["desk", "numbers"] (sp_answer_state K A) := by
  obtain ⟨f_as_row, fd_as_row, c_as_row⟩ := c_as_row
  have nd := sc_answer_state.nd
  refine F.ok sc_answer_state (fun vs H Q E h => ?_) (fun cdv Ar outer s H vs Q E hr h => ?_)
  · obtain ⟨a, ln, own, s, ns, rfl, ⟨dx, lm, ld, lt, kv, rfl, h⟩, hn, hl, nown, k⟩ := h; rfl
  obtain ⟨a, ln, own, s, ns, rfl, ⟨dx, lm, ld, lt, kv, rfl, h⟩, hn, hl, nown, k⟩ := h
  refine ⟨_, (pss_cons (ps_set (i := 2) nd rfl (Or.inl rfl) (pe_lst (pa_cons (pe_callB call_len_seq (by rfl) T.len PySem.boot_len (pa_cons (pe_fld (pv 0) rfl) pa_nil)) pa_nil)))
 (pss_cons (ps_for PassesOwn.never rfl (pi_list (pe_fld (pv 0) rfl)) (pg_name (i := 3) nd rfl (Or.inl rfl))
 (pss_one (ps_expr (pe_bm PySem.F.plainAttrs_list PySem.F.slot_list_extend PySem.F.type_list_extend mt_extend (pv 2) (pa_cons (pe_lst (pa_cons (pe_fld (pv 3) rfl) (pa_cons (pe_fld (pv 3) rfl) (pa_cons (pe_fld (pv 3) rfl) (pa_cons (pe_fld (pv 3) rfl) (pa_cons (pe_fld (pv 3) rfl) pa_nil)))))) pa_nil)))))
 (pss_cons (ps_expr (pe_bm PySem.F.plainAttrs_list PySem.F.slot_list_append PySem.F.type_list_append mt_append (pv 2) (pa_cons (pe_callB call_len_seq (by rfl) T.len PySem.boot_len (pa_cons (pe_fld (pv 0) rfl) pa_nil)) pa_nil)))
 (pss_cons (ps_for PassesOwn.never rfl (pi_list (pe_fld (pv 0) rfl)) (pg_name (i := 4) nd rfl (Or.inl rfl))
 (pss_one (ps_expr (pe_bm PySem.F.plainAttrs_list PySem.F.slot_list_extend PySem.F.type_list_extend mt_extend (pv 2) (pa_cons (pe_lst (pa_cons (pe_fld (pv 4) rfl) (pa_cons (pe_fld (pv 4) rfl) (pa_cons (pe_fld (pv 4) rfl) (pa_cons (pe_fld (pv 4) rfl) pa_nil))))) pa_nil)))))
 (pss_cons (ps_set (i := 5) nd rfl (Or.inl rfl) (pe_ifExp (pt_cmpR op_isN (pe_fld (pv 0) rfl) pe_non (nomark _)) (pe_lst pa_nil) (pe_fld (pv 0) rfl)))
 (pss_one (ps_ret (pe_op op_cat (pe_op op_cat (pv 2) (pe_call c_as_row.ok (hr.mono (by decide)) rfl c_as_row.gm c_as_row.kp c_as_row.b .nil pass0 (pa_cons (pe_fld (pv 0) rfl) pa_nil))) (pe_call c_as_row.ok (hr.mono (by decide)) rfl c_as_row.gm c_as_row.kp c_as_row.b .nil pass0 (pa_cons (pv 5) pa_nil)))))))))), ?_⟩
  have h1 := h.ob
  have D : DeskAt A H a (a :: lm :: ld :: lt :: kvA kv) s := ⟨dx, lm, ld, lt, kv, rfl, h⟩
  have h8 := h.ok.n8
  have h16 := h.ok.n16
  have tl := h.tl
  have e0 : ns = [] := List.eq_nil_of_length_eq_zero hl
  subst e0
  obtain ⟨ms, hms, hmn, hmat⟩ := h.ms.adr
  obtain ⟨ds, hds, hdn, hdat⟩ := h.ds.adr
  have hml : (ms.map V.ref).length = s.msgs.length := by rw [List.length_map, hmn]
  have hdl : (ds.map V.ref).length = s.demands.length := by rw [List.length_map, hdn]
  refine ⟨_, rfl, _, _, _, _, _, rfl, h1, T.clDesk, T.nDesk_messages, rfl, _, _, rfl, .inl (SqL.of hms), (by show 1 ≤ sizeLine; decide), fun p hp => ?_⟩
  have s1 : Same H (upd H p (.lst [.int ((ms.map V.ref).length : Nat)])) := Same.put hp
  have p1 : (upd H p (.lst [.int ((ms.map V.ref).length : Nat)])) p = some (.lst (((s.msgs.length : Int) :: (s.msgs.take 0).flatMap mRow).map V.int)) := by rw [upd_same, hml]; rfl
  generalize upd H p (.lst [.int ((ms.map V.ref).length : Nat)]) = H1 at s1 p1
  have g1 := s1 _ _ h1
  refine ⟨_, rfl, _, _, _, _, _, rfl, g1, T.clDesk, T.nDesk_messages, rfl, lm, rfl, ⟨_, SqL.of (s1 _ _ hms)⟩, ?_⟩
  refine for_list (xs := ms.map V.ref) (fun i σ H' => ∃ v3 : Option V, σ = [some (.ref a), some (.ref ln), some (.ref p), v3, none, none] ∧ Same H H' ∧ H' p = some (.lst (((s.msgs.length : Int) :: (s.msgs.take i).flatMap mRow).map V.int))) ⟨none, rfl, s1, p1⟩ (fun i σ H' _ ⟨_, _, s2, _⟩ => SqL.of (s2 _ _ hms)) ?_ ?_
  · rintro i x σ H2 hx ⟨v3, rfl, s2, p2⟩
    have hi : i < s.msgs.length := by rw [← hml]; exact (List.getElem?_eq_some_iff.mp hx).1
    obtain ⟨am, dxm, ea, g0⟩ := hmat i hi
    have ex : x = .ref am := by rw [List.getElem?_map, ea] at hx; exact (Option.some.inj hx).symm
    subst ex
    have g2 := s2 _ _ g0
    refine ⟨_, rfl, .inl ⟨rfl, _, SqL.of p2⟩, _, rfl, _, _, _, _, _, rfl, g2, T.clMessage, T.nMessage_period, rfl, _, rfl, _, _, _, _, _, rfl, g2, T.clMessage, T.nMessage_length, rfl, _, rfl, _, _, _, _, _, rfl, g2, T.clMessage, T.nMessage_earliest, rfl, _, rfl, _, _, _, _, _, rfl, g2, T.clMessage, T.nMessage_latest, rfl, _, rfl, _, _, _, _, _, rfl, g2, T.clMessage, T.nMessage_buses, rfl, (by show 5 ≤ sizeLine; decide), fun u hu => ?_⟩
    have nu : p ≠ u := ne_of_none p2 hu
    refine ⟨p, u, _, _, rfl, rfl, (upd_ne nu).trans p2, upd_same, Nat.le_of_lt (line_of ?_), _, rfl, (s2.new (s2.free hu)).new hp, ?_⟩
    · rw [List.length_map, List.length_cons, flat_len mRow 5 (fun _ => rfl), List.length_take]
      show _ + 5 ≤ _
      have : min i s.msgs.length * 5 ≤ 8 * 5 := Nat.mul_le_mul_right 5 (by omega)
      omega
    · rw [upd_same, List.take_add_one, gm_at hi]
      show _ = some (HO.lst (((s.msgs.length : Int) :: (s.msgs.take i ++ [gm s.msgs i]).flatMap mRow).map V.int))
      rw [flat_snoc, ← List.cons_append, List.map_append]
      rfl
  rintro σ H2 ⟨v3, rfl, s2, p2⟩
  rw [hml, List.take_length] at p2
  have g2 := s2 _ _ h1
  refine ⟨_, rfl, .inl ⟨rfl, _, SqL.of p2⟩, _, rfl, _, _, _, _, _, rfl, g2, T.clDesk, T.nDesk_demands, rfl, _, _, rfl, .inl (SqL.of (s2 _ _ hds)), p, _, _, rfl, rfl, p2, line_of ?_, ?_⟩
  · rw [List.length_map, List.length_cons, flat_len mRow 5 (fun _ => rfl)]; omega
  have s3 : Same H (upd H2 p (.lst (((s.msgs.length : Int) :: s.msgs.flatMap mRow).map V.int ++ [.int ((ds.map V.ref).length : Nat)]))) := s2.new hp
  have p3 : (upd H2 p (.lst (((s.msgs.length : Int) :: s.msgs.flatMap mRow).map V.int ++ [.int ((ds.map V.ref).length : Nat)]))) p = some (.lst (((s.msgs.length : Int) :: (s.msgs.flatMap mRow ++ ((s.demands.length : Int) :: (s.demands.take 0).flatMap dRow))).map V.int)) := by
    rw [upd_same, hdl, ← List.cons_append, List.map_append]; rfl
  generalize upd H2 p (.lst (((s.msgs.length : Int) :: s.msgs.flatMap mRow).map V.int ++ [.int ((ds.map V.ref).length : Nat)])) = H3 at s3 p3
  have g3 := s3 _ _ h1
  refine ⟨_, rfl, _, _, _, _, _, rfl, g3, T.clDesk, T.nDesk_demands, rfl, ld, rfl, ⟨_, SqL.of (s3 _ _ hds)⟩, ?_⟩
  refine for_list (xs := ds.map V.ref) (fun i σ H' => ∃ v4 : Option V, σ = [some (.ref a), some (.ref ln), some (.ref p), v3, v4, none] ∧ Same H H' ∧ H' p = some (.lst (((s.msgs.length : Int) :: (s.msgs.flatMap mRow ++ ((s.demands.length : Int) :: (s.demands.take i).flatMap dRow))).map V.int))) ⟨none, rfl, s3, p3⟩ (fun i σ H' _ ⟨_, _, s2, _⟩ => SqL.of (s2 _ _ hds)) ?_ ?_
  · rintro i x σ H4 hx ⟨v4, rfl, s4, p4⟩
    have hi : i < s.demands.length := by rw [← hdl]; exact (List.getElem?_eq_some_iff.mp hx).1
    have ed : s.demands[i]? = some s.demands[i] := List.getElem?_eq_getElem hi
    obtain ⟨am, dxm, ea, g0⟩ := hdat i _ ed
    have ex : x = .ref am := by rw [List.getElem?_map, ea] at hx; exact (Option.some.inj hx).symm
    subst ex
    have g4 := s4 _ _ g0
    refine ⟨_, rfl, .inl ⟨rfl, _, SqL.of p4⟩, _, rfl, _, _, _, _, _, rfl, g4, T.clDemand, T.nDemand_kind, rfl, _, rfl, _, _, _, _, _, rfl, g4, T.clDemand, T.nDemand_first, rfl, _, rfl, _, _, _, _, _, rfl, g4, T.clDemand, T.nDemand_second, rfl, _, rfl, _, _, _, _, _, rfl, g4, T.clDemand, T.nDemand_gap, rfl, (by show 4 ≤ sizeLine; decide), fun u hu => ?_⟩
    have nu : p ≠ u := ne_of_none p4 hu
    refine ⟨p, u, _, _, rfl, rfl, (upd_ne nu).trans p4, upd_same, Nat.le_of_lt (line_of ?_), _, rfl, (s4.new (s4.free hu)).new hp, ?_⟩
    · rw [List.length_map, List.length_cons, List.length_append, List.length_cons, flat_len mRow 5 (fun _ => rfl), flat_len dRow 4 (fun _ => rfl), List.length_take]
      show _ + 4 ≤ _
      have : min i s.demands.length * 4 ≤ 16 * 4 := Nat.mul_le_mul_right 4 (by omega)
      omega
    · rw [upd_same, List.take_add_one, ed]
      show _ = some (HO.lst (((s.msgs.length : Int) :: (s.msgs.flatMap mRow ++ ((s.demands.length : Int) :: (s.demands.take i ++ [s.demands[i]]).flatMap dRow))).map V.int))
      rw [flat_snoc]
      simp only [List.map_cons, List.map_append, List.append_assoc, List.cons_append]
      rfl
  rintro σ H4 ⟨v4, rfl, s4, p4⟩
  rw [hdl, List.take_length] at p4
  have g4 := s4 _ _ h1
  have al : ((s.msgs.length : Int) :: (s.msgs.flatMap mRow ++ ((s.demands.length : Int) :: s.demands.flatMap dRow))).length ≤ 110 := by
    rw [List.length_cons, List.length_append, List.length_cons, flat_len mRow 5 (fun _ => rfl), flat_len dRow 4 (fun _ => rfl)]; omega
  have es := stateRow_eq s
  generalize ((s.msgs.length : Int) :: (s.msgs.flatMap mRow ++ ((s.demands.length : Int) :: s.demands.flatMap dRow))) = R at p4 al es
  have tail : ∀ (H5 : Hp) (lk : Addr), Same H H5 → H5 p = some (.lst (R.map V.int)) → H5 lk = some (.lst ((tabI s.kept).map V.int)) → s.kept.length ≤ 8 →
      tRet (tOp rCat (tOp rCat (tVar 2) (tCall (sp_as_row K A) [] E0 (tCons (tFld K (tVar 0) "table") tNil))) (tCall (sp_as_row K A) [] E0 (tCons (tVar 5) tNil))) { nx := fun _ _ => False, rt := Q } [some (.ref a), some (.ref ln), some (.ref p), v3, v4, some (.ref lk)] H5 := by
    intro H5 lk s5 p5 hk5 kl
    have g5 := s5 _ _ h1
    refine ⟨_, rfl, _, rfl, _, _, _, _, _, rfl, g5, T.clDesk, T.nDesk_table, rfl, lt, _, rfl, s5 _ _ h.tb, by rw [List.length_map, tabI_len]; omega, fun H6 t6 s6 _ ht6 => ?_⟩
    have p6 := s6 _ _ p5
    refine ⟨p, t6, _, _, rfl, rfl, p6, ht6, Nat.le_of_lt (line_of ?_), fun c hc => ?_⟩
    · rw [List.length_map, List.length_cons, List.length_map, tabI_len]; omega
    have c7 : (upd H6 c (.lst (R.map V.int ++ .int (((tabI s.table).map V.int).length : Nat) :: (tabI s.table).map V.int))) c = some (.lst ((R ++ Vbavab.tableRow s.table).map V.int)) := by
      rw [upd_same, tableRow_eq, List.map_append, List.length_map, tabI_len]; rfl
    have s56 := s5.trans s6
    have s7 : Same H (upd H6 c (.lst (R.map V.int ++ .int (((tabI s.table).map V.int).length : Nat) :: (tabI s.table).map V.int))) := s56.new (s56.free hc)
    have s67 : Same H5 (upd H6 c (.lst (R.map V.int ++ .int (((tabI s.table).map V.int).length : Nat) :: (tabI s.table).map V.int))) := s6.new (s6.free hc)
    generalize upd H6 c (.lst (R.map V.int ++ .int (((tabI s.table).map V.int).length : Nat) :: (tabI s.table).map V.int)) = H7 at c7 s7 s67
    refine ⟨_, rfl, lk, _, rfl, s67 _ _ hk5, by rw [List.length_map, tabI_len]; omega, fun H8 t8 s8 _ ht8 => ?_⟩
    refine ⟨c, t8, _, _, rfl, rfl, s8 _ _ c7, ht8, Nat.le_of_lt (line_of ?_), fun e he => ?_⟩
    · rw [List.length_map, List.length_cons, List.length_map, tabI_len, List.length_append, tableRow_eq, List.length_cons, tabI_len]; omega
    have s78 := s7.trans s8
    refine spH_same D k (call17 s) (s78.new (s78.free he)) ?_ (s78.free he) (by rw [es, List.length_append, List.length_append, tableRow_eq, tableRow_eq, List.length_cons, List.length_cons, tabI_len, tabI_len]; omega)
    rw [upd_same, es, tableRow_eq s.kept, List.length_map, tabI_len]
    simp only [List.map_cons, List.map_append, List.append_assoc, List.cons_append]
  refine ⟨_, rfl, _, _, _, _, _, rfl, g4, T.clDesk, T.nDesk_kept, rfl, rfl, _, rfl, ?_⟩
  rcases h.kp with ⟨rfl, e1, e2⟩ | ⟨lk, rfl, hk, hkl⟩
  · refine iteT ⟨Nat.zero_le _, fun lk hlk => ?_⟩
    exact tail _ lk (s4.new (s4.free hlk)) ((Same.put hlk) _ _ p4) (by rw [upd_same, e1]; rfl) (by rw [e1]; exact Nat.zero_le _)
  · refine iteF ⟨_, rfl, _, _, _, _, _, rfl, g4, T.clDesk, T.nDesk_kept, rfl, ?_⟩
    exact tail H4 lk s4 p4 (s4 _ _ hk) (by omega)
end
def argL : List Nat := [5, 4, 2, 1, 0, 1, 1, 1, 0, 0, 1, 2, 2, 1, 1, 2, 0, 0]
def argN (i : Nat) : Nat := argL.getD i 0
theorem shape_in (n : Nat) (h : n < 18) : PyVbavab.shape (n : Int) = some (argN n, 0) := by
  match n, h with
  | 0, _ => rfl
  | 1, _ => rfl
  | 2, _ => rfl
  | 3, _ => rfl
  | 4, _ => rfl
  | 5, _ => rfl
  | 6, _ => rfl
  | 7, _ => rfl
  | 8, _ => rfl
  | 9, _ => rfl
  | 10, _ => rfl
  | 11, _ => rfl
  | 12, _ => rfl
  | 13, _ => rfl
  | 14, _ => rfl
  | 15, _ => rfl
  | 16, _ => rfl
  | 17, _ => rfl
  | n + 18, h => omega
theorem shape_out (p : Int) (h : p < 0 ∨ 18 ≤ p) : PyVbavab.shape p = none := by
  unfold PyVbavab.shape
  repeat rw [if_neg (by omega)]
theorem calls_cons {f : Nat} {p : Int} {r : List Int} {cs : List (List (List Int))} (h : PyFlat.calls PyVbavab.shape f (p :: r) = some cs) :
    ∃ (n f' : Nat) (cs' : List (List (List Int))), p = (n : Nat) ∧ n < 18 ∧ argN n ≤ r.length ∧ cs = [p :: r.take (argN n)] :: cs' ∧ PyFlat.calls PyVbavab.shape f' (r.drop (argN n)) = some cs' := by
  cases f with
  | zero => cases h
  | succ f =>
    have h : (match PyFlat.call PyVbavab.shape (p :: r) with
      | none => none
      | some (c, t) => match PyFlat.calls PyVbavab.shape f t with
        | none => none
        | some cs => some (c :: cs)) = some cs := h
    by_cases hp : p < 0 ∨ 18 ≤ p
    · have e : PyFlat.call PyVbavab.shape (p :: r) = none := by
        show (match PyVbavab.shape p with
          | none => none
          | some (n, k) => if r.length < n then none else match PyFlat.rows k (r.drop n) with
            | none => none
            | some (xs, t) => some ((p :: r.take n) :: xs, t)) = none
        rw [shape_out p hp]
      rw [e] at h
      cases h
    · obtain ⟨n, rfl⟩ : ∃ n : Nat, p = (n : Nat) := ⟨p.toNat, by omega⟩
      have hn : n < 18 := by omega
      have e : PyFlat.call PyVbavab.shape ((n : Int) :: r) = if r.length < argN n then none else some ([(n : Int) :: r.take (argN n)], r.drop (argN n)) := by
        show (match PyVbavab.shape (n : Int) with
          | none => none
          | some (n', k) => if r.length < n' then none else match PyFlat.rows k (r.drop n') with
            | none => none
            | some (xs, t) => some (((n : Int) :: r.take n') :: xs, t)) = _
        rw [shape_in n hn]
        rfl
      rw [e] at h
      by_cases hl : r.length < argN n
      · rw [if_pos hl] at h; cases h
      · rw [if_neg hl] at h
        have h : (match PyFlat.calls PyVbavab.shape f (r.drop (argN n)) with
          | none => none
          | some cs => some ([(n : Int) :: r.take (argN n)] :: cs)) = some cs := h
        cases q : PyFlat.calls PyVbavab.shape f (r.drop (argN n)) with
        | none => rw [q] at h; cases h
        | some cs' =>
          rw [q] at h
          injection h with h
          exact ⟨n, f, cs', rfl, hn, by omega, h.symm, q⟩
theorem whole_ok : ∀ (n : Nat) (_ : n < 18) (ns : List Int) (_ : ns.length = argN n), PyVbavab.whole [(n : Int) :: ns] = [(n : Int) :: ns]
  | 0, _, ns, h => by
    obtain ⟨a, b, c, d, e, rfl⟩ := len5 h
    rfl
  | 1, _, ns, h => by
    obtain ⟨a, b, c, d, rfl⟩ := len4 h
    rfl
  | 2, _, ns, h => by
    obtain ⟨a, b, rfl⟩ := len2 h
    rfl
  | 3, _, ns, h => by
    obtain ⟨a, rfl⟩ := len1 h
    rfl
  | 4, _, ns, h => by
    obtain rfl := List.eq_nil_of_length_eq_zero h
    rfl
  | 5, _, ns, h => by
    obtain ⟨a, rfl⟩ := len1 h
    rfl
  | 6, _, ns, h => by
    obtain ⟨a, rfl⟩ := len1 h
    rfl
  | 7, _, ns, h => by
    obtain ⟨a, rfl⟩ := len1 h
    rfl
  | 8, _, ns, h => by
    obtain rfl := List.eq_nil_of_length_eq_zero h
    rfl
  | 9, _, ns, h => by
    obtain rfl := List.eq_nil_of_length_eq_zero h
    rfl
  | 10, _, ns, h => by
    obtain ⟨a, rfl⟩ := len1 h
    rfl
  | 11, _, ns, h => by
    obtain ⟨a, b, rfl⟩ := len2 h
    rfl
  | 12, _, ns, h => by
    obtain ⟨a, b, rfl⟩ := len2 h
    rfl
  | 13, _, ns, h => by
    obtain ⟨a, rfl⟩ := len1 h
    rfl
  | 14, _, ns, h => by
    obtain ⟨a, rfl⟩ := len1 h
    rfl
  | 15, _, ns, h => by
    obtain ⟨a, b, rfl⟩ := len2 h
    rfl
  | 16, _, ns, h => by
    obtain rfl := List.eq_nil_of_length_eq_zero h
    rfl
  | 17, _, ns, h => by
    obtain rfl := List.eq_nil_of_length_eq_zero h
    rfl
  | n + 18, h, _, _ => absurd h (by omega)
theorem whole_all : ∀ {cs : List (List (List Int))} {f : Nat} {l : List Int}, PyFlat.calls PyVbavab.shape f l = some cs → cs.map PyVbavab.whole = cs
  | [], _, _, _ => rfl
  | c :: cs, f, [], h => by cases f <;> cases h
  | c :: cs, f, p :: r, h => by
    obtain ⟨n, f', cs', en, hn, har, ec, h'⟩ := calls_cons h
    injection ec with e1 e2
    rw [e1, e2, en, List.map_cons, whole_ok n hn _ (by rw [List.length_take]; omega), whole_all h']
theorem calls_of {ns : List Int} (h : PyVbavab.answers_asked ns = true) : ∃ cs, PyFlat.calls PyVbavab.shape ns.length ns = some cs ∧ cs.length ≤ 400 ∧ PyVbavab.answers ns = PyFlat.told (PyFlat.played Vbavab.stepRaw Vbavab.start cs) := by
  unfold PyVbavab.answers_asked PyVbavab.calls at h
  unfold PyVbavab.answers PyVbavab.calls
  cases q : PyFlat.calls PyVbavab.shape ns.length ns with
  | none => rw [q] at h; cases h
  | some cs =>
    rw [q] at h
    have e : cs.map PyVbavab.whole = cs := whole_all q
    have h : (PyFlat.atMost 400 (cs.map PyVbavab.whole) && VbavabNeutral.asked (cs.map PyVbavab.whole)) = true := h
    rw [e, Bool.and_eq_true] at h
    refine ⟨cs, rfl, of_decide_eq_true h.1, ?_⟩
    show PyFlat.told (PyFlat.played VbavabNeutral.step VbavabNeutral.start (cs.map PyVbavab.whole)) = _
    rw [e]
    rfl
def CallsAt (K : PySem.W.Frag) (H : Hp) (lc : Addr) (out : List Addr) (vs : List V) : Prop := (∃ u, H lc = some u ∧ (∀ H' : Hp, H' lc = some u → SqL K H' lc vs) ∧ lc ∉ out) ∨ ∀ H' : Hp, SqL K H' lc vs
theorem CallsAt.sq {K : PySem.W.Frag} {H : Hp} {lc : Addr} {out : List Addr} {vs : List V} (h : CallsAt K H lc out vs) : SqL K H lc vs := by
  rcases h with ⟨u, h1, h2, _⟩ | h
  · exact h2 H h1
  · exact h H
theorem CallsAt.go {K : PySem.W.Frag} {H H' : Hp} {lc : Addr} {out out' : List Addr} {vs : List V} (h : CallsAt K H lc out vs) (hk : ∀ u, H lc = some u → lc ∉ out → H' lc = some u ∧ lc ∉ out') : CallsAt K H' lc out' vs := by
  rcases h with ⟨u, h1, h2, h3⟩ | h
  · exact .inl ⟨u, (hk u h1 h3).1, h2, (hk u h1 h3).2⟩
  · exact .inr h
theorem CallsAt.of {K : PySem.W.Frag} {H : Hp} {lc : Addr} {vs : List V} (h : SqL K H lc vs) : CallsAt K H lc [] vs := by
  rcases h with (h | ⟨o, h⟩) | h
  · exact .inl ⟨_, h, fun H' e => SqL.of e, by simp⟩
  · exact .inl ⟨_, h, fun H' e => .inl (.inr ⟨o, e⟩), by simp⟩
  · exact .inr fun H' => .inr h
theorem DeskAt.live {A : Adr} {H : Hp} {a : Addr} {own : List Addr} {s : Plan} (d : DeskAt A H a own s) {x : Addr} (hx : x ∈ own) : H x ≠ none := by
  obtain ⟨dx, lm, ld, lt, kv, rfl, h⟩ := d
  obtain ⟨_, em, _⟩ := h.ms.ex
  obtain ⟨_, ed, _⟩ := h.ds.ex
  rcases List.mem_cons.mp hx with q | hx
  · rw [q, h.ob]; intro z; cases z
  rcases List.mem_cons.mp hx with q | hx
  · rw [q, em]; intro z; cases z
  rcases List.mem_cons.mp hx with q | hx
  · rw [q, ed]; intro z; cases z
  rcases List.mem_cons.mp hx with q | hx
  · rw [q, h.tb]; intro z; cases z
  rcases h.kp with ⟨e, _⟩ | ⟨lk, e, h1, _⟩
  · rw [e] at hx; cases hx
  · rw [e] at hx
    rw [List.mem_singleton.mp hx, h1]; intro z; cases z
theorem DeskAt.keep {A : Adr} {H H' : Hp} {a : Addr} {own : List Addr} {s : Plan} (d : DeskAt A H a own s) (sm : Same H H') : DeskAt A H' a own s := by
  obtain ⟨dx, lm, ld, lt, kv, e, h⟩ := d
  exact ⟨dx, lm, ld, lt, kv, e, h.keep sm⟩
theorem DeskAt.off {A : Adr} {H : Hp} {a g : Addr} {own : List Addr} {s : Plan} {xs : List V} {u : HO} (d : DeskAt A H a own s) (hg : H g = some (.lst xs)) (n : g ∉ own) : DeskAt A (upd H g u) a own s := by
  obtain ⟨dx, lm, ld, lt, kv, rfl, h⟩ := d
  have n1 : a ≠ g := fun z => n (by rw [← z]; simp)
  have n2 : lm ≠ g := fun z => n (by rw [← z]; simp)
  have n3 : ld ≠ g := fun z => n (by rw [← z]; simp)
  have n4 : lt ≠ g := fun z => n (by rw [← z]; simp)
  have n5 : kv ≠ .ref g := fun z => n (by rw [z]; simp [kvA])
  exact ⟨dx, lm, ld, lt, kv, rfl, by rw [upd_ne n1]; exact h.ob, h.ms.off hg noM_lst n2.symm, h.ds.off hg noD_lst n3.symm, by rw [upd_ne n4]; exact h.tb, KeptAt.off (o := .lst []) h.kp n5, h.ok, h.tl, h.md, h.mt, h.dt, h.km, h.kd, h.kt, h.tw⟩
theorem step_new {G : Hp} {a l : Addr} {o o' : HO} (ha : G a = some o) (hl : G l = none) : (upd (upd G l (.lst [])) a o') a = some o' ∧ (upd (upd G l (.lst [])) a o') l = some (.lst []) ∧ (∀ b u, G b = some u → b ≠ a → (upd (upd G l (.lst [])) a o') b = some u) ∧ ∀ x, (upd (upd G l (.lst [])) a o') x = none → G x = none ∧ x ≠ l := by
  have n : l ≠ a := (ne_of_none ha hl).symm
  refine ⟨upd_same, by rw [upd_ne n, upd_same], fun b u e nb => by rw [upd_ne nb, upd_ne (ne_of_none e hl)]; exact e, fun x hx => ?_⟩
  have h1 := uf hx
  exact ⟨uf h1, fun z => by rw [z, upd_same] at h1; cases h1⟩
def sp_Desk_init (K : PySem.W.Frag) (A : Adr) : Sp := fun vs H Q _ => ∃ (a dx : Addr), vs = [.ref a] ∧ H a = some (.ins A.cDesk dx []) ∧ ∀ (H' : Hp) (own : List Addr), DeskAt A H' a own Vbavab.start → (∀ b u, H b = some u → b ≠ a → H' b = some u) → (∀ x ∈ own, x = a ∨ H x = none) → Q .non H'
def sp_top (K : PySem.W.Frag) : Sp := fun vs H Q _ => ∃ (lc : Addr) (ns : List Int), vs = [.ref lc] ∧ SqL K H lc (ns.map V.int) ∧ PyVbavab.answers_asked ns = true ∧ ∀ (H' : Hp) (p : Addr), H' p = some (.lst ((PyVbavab.answers ns).map V.int)) → Q (.ref p) H'
def sp_answers (K : PySem.W.Frag) (A : Adr) : Sp := sp_top K
def sp_answer_calls (K : PySem.W.Frag) (A : Adr) : Sp := fun vs H Q _ => ∃ (a lc : Addr) (own : List Addr) (ns : List Int), vs = [.ref a, .ref lc] ∧ DeskAt A H a own Vbavab.start ∧ CallsAt K H lc own (ns.map V.int) ∧ PyVbavab.answers_asked ns = true ∧
  ∀ (H' : Hp) (p : Addr), H' p = some (.lst ((PyVbavab.answers ns).map V.int)) → Q (.ref p) H'
theorem arg_at (n : Nat) (h : n < 18) : ([.int 5, .int 4, .int 2, .int 1, .int 0, .int 1, .int 1, .int 1, .int 0, .int 0, .int 1, .int 2, .int 2, .int 1, .int 1, .int 2, .int 0, .int 0] : List V)[n]? = some (.int (argN n : Nat)) := by
  match n, h with
  | 0, _ => rfl
  | 1, _ => rfl
  | 2, _ => rfl
  | 3, _ => rfl
  | 4, _ => rfl
  | 5, _ => rfl
  | 6, _ => rfl
  | 7, _ => rfl
  | 8, _ => rfl
  | 9, _ => rfl
  | 10, _ => rfl
  | 11, _ => rfl
  | 12, _ => rfl
  | 13, _ => rfl
  | 14, _ => rfl
  | 15, _ => rfl
  | 16, _ => rfl
  | 17, _ => rfl
  | n + 18, h => omega
theorem cut_ints {ns : List Int} {st n : Nat} (h : st + 1 + n ≤ ns.length) : cutV (ns.map V.int) (some ((st : Int) + 1)) (some ((st : Int) + 1 + (n : Int))) = (((ns.drop (st + 1)).take n)).map V.int := by
  unfold cutV
  rw [show (st : Int) + 1 = ((st + 1 : Nat) : Int) by omega, show ((st + 1 : Nat) : Int) + (n : Int) = ((st + 1 + n : Nat) : Int) by omega, HT.sIx_nat, HT.sIx_nat, List.length_map, Nat.min_eq_left (by omega), Nat.min_eq_left (by omega), List.map_take, List.map_drop]
  congr 1
  omega
theorem ar1 {C : List Value → Prop} (h : ∀ a, C [a]) : ∀ us : List Value, us.length = 1 → C us
  | [a], _ => h a
theorem ar2 {C : List Value → Prop} (h : ∀ a b, C [a, b]) : ∀ us : List Value, us.length = 2 → C us
  | [a, b], _ => h a b
theorem ar3 {C : List Value → Prop} (h : ∀ a b c, C [a, b, c]) : ∀ us : List Value, us.length = 3 → C us
  | [a, b, c], _ => h a b c
theorem ar4 {C : List Value → Prop} (h : ∀ a b c d, C [a, b, c, d]) : ∀ us : List Value, us.length = 4 → C us
  | [a, b, c, d], _ => h a b c d
theorem ar5 {C : List Value → Prop} (h : ∀ a b c d e, C [a, b, c, d, e]) : ∀ us : List Value, us.length = 5 → C us
  | [a, b, c, d, e], _ => h a b c d e
theorem ar6 {C : List Value → Prop} (h : ∀ a b c d e f, C [a, b, c, d, e, f]) : ∀ us : List Value, us.length = 6 → C us
  | [a, b, c, d, e, f], _ => h a b c d e f
section
variable {P : Program} {w : World} {K : PySem.W.Frag} {mg : Str → Option Value} {base : Heap} {A : Adr}
theorem ok_Desk_init {f : Addr} {fd : FuncData} (F : Fun K "__init__" "Desk.__init__" s_Desk_init f fd) (T : Txt K mg A) : FnOk P w K mg base CX0 1 f fd ["self"] (sp_Desk_init K A) := by
  have nd := sc_Desk_init.nd
  refine F.ok sc_Desk_init (fun vs H Q E h => ?_) (fun cdv Ar outer s H vs Q E hr h => ?_)
  · obtain ⟨a, dx, rfl, hA, k⟩ := h; rfl
  obtain ⟨a, dx, rfl, hA, k⟩ := h
  refine ⟨_, (pss_cons (ps_fld (pv 0) (pe_lst pa_nil) rfl)
 (pss_cons (ps_fld (pv 0) (pe_lst pa_nil) rfl)
 (pss_cons (ps_fld (pv 0) (pe_lst pa_nil) rfl)
 (pss_one (ps_fld (pv 0) (pe_lst pa_nil) rfl))))), ?_⟩
  refine ⟨Nat.zero_le _, fun lm hlm => ?_⟩
  refine ⟨_, rfl, a, _, dx, _, rfl, (upd_ne (ne_of_none hA hlm)).trans hA, T.clDesk, T.nDesk_messages, Nat.le_of_ble_eq_true rfl, ?_⟩
  obtain ⟨a1, m1, f1, z1⟩ := step_new (o' := .ins A.cDesk dx [(nm "messages", .ref lm)]) hA hlm
  refine ⟨Nat.zero_le _, fun ld hld => ?_⟩
  refine ⟨_, rfl, a, _, dx, _, rfl, (upd_ne (ne_of_none a1 hld)).trans a1, T.clDesk, T.nDesk_demands, Nat.le_of_ble_eq_true rfl, ?_⟩
  obtain ⟨a2, m2, f2, z2⟩ := step_new (o' := .ins A.cDesk dx [(nm "messages", .ref lm), (nm "demands", .ref ld)]) a1 hld
  refine ⟨Nat.zero_le _, fun lt hlt => ?_⟩
  refine ⟨_, rfl, a, _, dx, _, rfl, (upd_ne (ne_of_none a2 hlt)).trans a2, T.clDesk, T.nDesk_table, Nat.le_of_ble_eq_true rfl, ?_⟩
  obtain ⟨a3, m3, f3, z3⟩ := step_new (o' := .ins A.cDesk dx [(nm "messages", .ref lm), (nm "demands", .ref ld), (nm "table", .ref lt)]) a2 hlt
  refine ⟨Nat.zero_le _, fun lk hlk => ?_⟩
  refine ⟨_, rfl, a, _, dx, _, rfl, (upd_ne (ne_of_none a3 hlk)).trans a3, T.clDesk, T.nDesk_kept, Nat.le_of_ble_eq_true rfl, ?_⟩
  obtain ⟨a4, m4, f4, z4⟩ := step_new (o' := .ins A.cDesk dx [(nm "messages", .ref lm), (nm "demands", .ref ld), (nm "table", .ref lt), (nm "kept", .ref lk)]) a3 hlk
  have na1 : lm ≠ a := (ne_of_none hA hlm).symm
  have na2 : ld ≠ a := (ne_of_none a1 hld).symm
  have na3 : lt ≠ a := (ne_of_none a2 hlt).symm
  have lm2 := f2 _ _ m1 na1
  have lm3 := f3 _ _ lm2 na1
  have lm4 := f4 _ _ lm3 na1
  have ld3 := f3 _ _ m2 na2
  have ld4 := f4 _ _ ld3 na2
  have lt4 := f4 _ _ m3 na3
  refine k _ (a :: lm :: ld :: lt :: [lk]) ⟨dx, lm, ld, lt, .ref lk, rfl, a4, ⟨[], lm4, rfl, fun i b m e _ => by simp at e⟩, ⟨[], ld4, rfl, fun i b m e _ => by simp at e⟩, lt4, .inr ⟨lk, rfl, m4, rfl⟩,
    ⟨fun m hm => (by cases hm), fun m hm => (by cases hm), Nat.zero_le _, Nat.zero_le _⟩, rfl, ne_of_none m1 hld, ne_of_none lm2 hlt, ne_of_none m2 hlt, fun z => ?_, fun z => ?_, fun z => ?_, fun i x e => ?_⟩ (fun b u e nb => f4 _ _ (f3 _ _ (f2 _ _ (f1 _ _ e nb) nb) nb) nb) (fun x hx => ?_)
  · injection z with z; exact ne_of_none lm3 hlk z.symm
  · injection z with z; exact ne_of_none ld3 hlk z.symm
  · injection z with z; exact ne_of_none m3 hlk z.symm
  · unfold Vbavab.beginOf at e
    have e : ([] : List (Option Nat)).getD i none = some x := e
    simp at e
  · rcases List.mem_cons.mp hx with q | hx
    · exact .inl q
    rcases List.mem_cons.mp hx with q | hx
    · exact .inr (by rw [q]; exact hlm)
    rcases List.mem_cons.mp hx with q | hx
    · exact .inr (by rw [q]; exact (z1 _ hld).1)
    rcases List.mem_cons.mp hx with q | hx
    · exact .inr (by rw [q]; exact (z1 _ (z2 _ hlt).1).1)
    · exact .inr (by rw [List.mem_singleton.mp hx]; exact (z1 _ (z2 _ (z3 _ hlk).1).1).1)
theorem ok_answer_calls {f : Addr} {fd : FuncData} (F : Fun K "answer_calls" "answer_calls" s_answer_calls f fd) (T : Txt K mg A) (d_answer_message : HdX P w K mg base 7 A.f_answer_message ["desk", "numbers"] (sp_answer_message K A)) (d_answer_demand : HdX P w K mg base 7 A.f_answer_demand ["desk", "numbers"] (sp_answer_demand K A)) (d_answer_put : HdX P w K mg base 7 A.f_answer_put ["desk", "numbers"] (sp_answer_put K A)) (d_answer_unput : HdX P w K mg base 7 A.f_answer_unput ["desk", "numbers"] (sp_answer_unput K A)) (d_answer_check : HdX P w K mg base 7 A.f_answer_check ["desk", "numbers"] (sp_answer_check K A)) (d_answer_search : HdX P w K mg base 7 A.f_answer_search ["desk", "numbers"] (sp_answer_search K A)) (d_answer_count : HdX P w K mg base 7 A.f_answer_count ["desk", "numbers"] (sp_answer_count K A)) (d_answer_blame : HdX P w K mg base 7 A.f_answer_blame ["desk", "numbers"] (sp_answer_blame K A)) (d_answer_keep : HdX P w K mg base 7 A.f_answer_keep ["desk", "numbers"] (sp_answer_keep K A)) (d_answer_steps : HdX P w K mg base 7 A.f_answer_steps ["desk", "numbers"] (sp_answer_steps K A)) (d_answer_room : HdX P w K mg base 7 A.f_answer_room ["desk", "numbers"] (sp_answer_room K A)) (d_answer_at : HdX P w K mg base 7 A.f_answer_at ["desk", "numbers"] (sp_answer_at K A)) (d_answer_next : HdX P w K mg base 7 A.f_answer_next ["desk", "numbers"] (sp_answer_next K A)) (d_answer_load : HdX P w K mg base 7 A.f_answer_load ["desk", "numbers"] (sp_answer_load K A)) (d_answer_free : HdX P w K mg base 7 A.f_answer_free ["desk", "numbers"] (sp_answer_free K A)) (d_answer_wait : HdX P w K mg base 7 A.f_answer_wait ["desk", "numbers"] (sp_answer_wait K A)) (d_answer_table : HdX P w K mg base 7 A.f_answer_table ["desk", "numbers"] (sp_answer_table K A)) (d_answer_state : HdX P w K mg base 7 A.f_answer_state ["desk", "numbers"] (sp_answer_state K A)) : FnOk P w K mg base CX0 8 f fd ["desk", "calls"] (sp_answer_calls K A) := by
  have nd := sc_answer_calls.nd
  refine F.ok sc_answer_calls (fun vs H Q E h => ?_) (fun cdv Ar outer s H vs Q E hr h => ?_)
  · obtain ⟨a, lc, own, ns, rfl, hd, hc, hask, k⟩ := h; rfl
  obtain ⟨a, lc, own, ns, rfl, hd, hc, hask, k⟩ := h
  refine ⟨_, (pss_cons (ps_set (i := 2) nd rfl (Or.inl rfl) (pe_lst pa_nil))
 (pss_cons (ps_set (i := 3) nd rfl (Or.inl rfl) pe_int)
 (pss_cons (ps_while PassesOwn.never (pt_cmpR op_lt (pv 3) (pe_callB call_len_seq (by rfl) T.len PySem.boot_len (pa_cons (pv 1) pa_nil)) (nomark _))
 (pss_cons (ps_set (i := 4) nd rfl (Or.inl rfl) (pe_ix ix_list (pv 1) (pv 3) (fun _ _ => rfl)))
 (pss_cons (ps_set (i := 5) nd rfl (Or.inl rfl) (pe_op op_add (pe_op op_add (pv 3) pe_int) (pe_ix ix_tup (pe_cst rfl T.g_ARGUMENTS) (pv 4) (fun _ _ => rfl))))
 (pss_cons (ps_set (i := 6) nd rfl (Or.inl rfl) (pe_ix ix_tup (pe_cst rfl T.g_HANDLERS) (pv 4) (fun _ _ => rfl)))
 (pss_cons (ps_set (i := 7) nd rfl (Or.inl rfl) (pe_callV 6 hr (pa_cons (pv 0) (pa_cons (pe_slice sl_list (pv 1) (po_some (pe_op op_add (pv 3) pe_int)) (po_some (pv 5))) pa_nil))))
 (pss_cons (ps_expr (pe_bm PySem.F.plainAttrs_list PySem.F.slot_list_append PySem.F.type_list_append mt_append (pv 2) (pa_cons (pe_callB call_len_seq (by rfl) T.len PySem.boot_len (pa_cons (pv 7) pa_nil)) pa_nil)))
 (pss_cons (ps_expr (pe_bm PySem.F.plainAttrs_list PySem.F.slot_list_extend PySem.F.type_list_extend mt_extend (pv 2) (pa_cons (pv 7) pa_nil)))
 (pss_one (ps_set (i := 3) nd rfl (Or.inl rfl) (pv 5))))))))))
 (pss_one (ps_ret (pv 2)))))), ?_⟩
  obtain ⟨cs0, hc0, hl0, ha0⟩ := calls_of hask
  rw [ha0] at k
  refine ⟨Nat.zero_le _, fun g hg => ?_⟩
  have gno : g ∉ own := fun z => hd.live z hg
  have c1 : CallsAt K (upd H g (.lst [])) lc (g :: own) (ns.map V.int) := hc.go fun u e no => by
    have ne : lc ≠ g := ne_of_none e hg
    refine ⟨by rw [upd_ne ne]; exact e, fun z => ?_⟩
    rcases List.mem_cons.mp z with z | z
    · exact ne z
    · exact no z
  have hlen : (ns.map V.int).length = ns.length := List.length_map ..
  refine ⟨fun m σ H' => ∃ (st : Nat) (own : List Addr) (s : Plan) (acc : List Int) (cs : List (List (List Int))) (f : Nat) (v4 v5 v6 v7 : Option V), σ = [some (.ref a), some (.ref lc), some (.ref g), some (.int (st : Nat)), v4, v5, v6, v7] ∧ DeskAt A H' a own s ∧ CallsAt K H' lc (g :: own) (ns.map V.int) ∧ H' g = some (.lst (acc.map V.int)) ∧ g ∉ own ∧ st ≤ ns.length ∧ m = ns.length - st ∧
    PyFlat.calls PyVbavab.shape f (ns.drop st) = some cs ∧ acc ++ PyFlat.told (PyFlat.played Vbavab.stepRaw s cs) = PyFlat.told (PyFlat.played Vbavab.stepRaw Vbavab.start cs0) ∧ acc.length + 1001 * cs.length ≤ 401000,
    ⟨_, 0, own, Vbavab.start, [], cs0, ns.length, none, none, none, none, rfl, hd.keep (Same.put hg), c1, upd_same, gno, Nat.zero_le _, rfl, hc0, rfl, by show 0 + _ ≤ _; omega⟩, ?_⟩
  rintro m σ H1 ⟨st, own, s, acc, cs, f, v4, v5, v6, v7, rfl, d, c, hg1, ng, hst, rfl, hcs, hacc, hbd⟩
  have sq := c.sq
  refine ⟨_, rfl, _, rfl, lc, _, rfl, .inl sq, _, _, rfl, rfl, _, rfl, ?_⟩
  by_cases hend : st < ns.length
  · rw [decide_eq_true (show ((st : Nat) : Int) < ((ns.map V.int).length : Nat) by rw [hlen]; omega)]
    refine iteT ⟨_, fun _ _ q => q, ?_⟩
    have ep : ns[st]? = some ns[st] := List.getElem?_eq_getElem hend
    rw [List.drop_eq_getElem_cons hend] at hcs
    obtain ⟨n, f', cs', en, hn, har, rfl, hcs'⟩ := calls_cons hcs
    rw [en] at ep hacc
    rw [List.length_drop] at har
    refine ⟨_, rfl, _, rfl, lc, _, _, .int (n : Nat), rfl, rfl, sq, at_int ep, ?_⟩
    refine ⟨_, rfl, _, _, rfl, rfl, _, rfl, A.t_ARGUMENTS, _, _, .int (argN n : Nat), rfl, rfl, T.r_ARGUMENTS.sq, atI_nat (arg_at n hn), _, _, rfl, rfl, ?_⟩
    have hand : ∃ (hf : Addr) (fd : FuncData), ([.ref A.f_answer_message, .ref A.f_answer_demand, .ref A.f_answer_put, .ref A.f_answer_unput, .ref A.f_answer_check, .ref A.f_answer_search, .ref A.f_answer_count, .ref A.f_answer_blame, .ref A.f_answer_keep, .ref A.f_answer_steps, .ref A.f_answer_room, .ref A.f_answer_at, .ref A.f_answer_next, .ref A.f_answer_load, .ref A.f_answer_free, .ref A.f_answer_wait, .ref A.f_answer_table, .ref A.f_answer_state] : List V)[n]? = some (.ref hf) ∧ FnOk P w K mg base CX0 7 hf fd ["desk", "numbers"] (spH A n (argN n)) ∧ PySem.W.keepIn K (.ref hf) = true ∧ Binds K fd ["desk", "numbers"] [] := match n, hn with
    | 0, _ => by obtain ⟨fd, z1, z2, z3⟩ := d_answer_message; exact ⟨_, fd, rfl, z1, z2, z3⟩
    | 1, _ => by obtain ⟨fd, z1, z2, z3⟩ := d_answer_demand; exact ⟨_, fd, rfl, z1, z2, z3⟩
    | 2, _ => by obtain ⟨fd, z1, z2, z3⟩ := d_answer_put; exact ⟨_, fd, rfl, z1, z2, z3⟩
    | 3, _ => by obtain ⟨fd, z1, z2, z3⟩ := d_answer_unput; exact ⟨_, fd, rfl, z1, z2, z3⟩
    | 4, _ => by obtain ⟨fd, z1, z2, z3⟩ := d_answer_check; exact ⟨_, fd, rfl, z1, z2, z3⟩
    | 5, _ => by obtain ⟨fd, z1, z2, z3⟩ := d_answer_search; exact ⟨_, fd, rfl, z1, z2, z3⟩
    | 6, _ => by obtain ⟨fd, z1, z2, z3⟩ := d_answer_count; exact ⟨_, fd, rfl, z1, z2, z3⟩
    | 7, _ => by obtain ⟨fd, z1, z2, z3⟩ := d_answer_blame; exact ⟨_, fd, rfl, z1, z2, z3⟩
    | 8, _ => by obtain ⟨fd, z1, z2, z3⟩ := d_answer_keep; exact ⟨_, fd, rfl, z1, z2, z3⟩
    | 9, _ => by obtain ⟨fd, z1, z2, z3⟩ := d_answer_steps; exact ⟨_, fd, rfl, z1, z2, z3⟩
    | 10, _ => by obtain ⟨fd, z1, z2, z3⟩ := d_answer_room; exact ⟨_, fd, rfl, z1, z2, z3⟩
    | 11, _ => by obtain ⟨fd, z1, z2, z3⟩ := d_answer_at; exact ⟨_, fd, rfl, z1, z2, z3⟩
    | 12, _ => by obtain ⟨fd, z1, z2, z3⟩ := d_answer_next; exact ⟨_, fd, rfl, z1, z2, z3⟩
    | 13, _ => by obtain ⟨fd, z1, z2, z3⟩ := d_answer_load; exact ⟨_, fd, rfl, z1, z2, z3⟩
    | 14, _ => by obtain ⟨fd, z1, z2, z3⟩ := d_answer_free; exact ⟨_, fd, rfl, z1, z2, z3⟩
    | 15, _ => by obtain ⟨fd, z1, z2, z3⟩ := d_answer_wait; exact ⟨_, fd, rfl, z1, z2, z3⟩
    | 16, _ => by obtain ⟨fd, z1, z2, z3⟩ := d_answer_table; exact ⟨_, fd, rfl, z1, z2, z3⟩
    | 17, _ => by obtain ⟨fd, z1, z2, z3⟩ := d_answer_state; exact ⟨_, fd, rfl, z1, z2, z3⟩
    | n + 18, h => absurd h (by omega)
    obtain ⟨hf, fd, eh, F0, kp0, b0⟩ := hand
    refine ⟨_, rfl, A.t_HANDLERS, _, _, .ref hf, rfl, rfl, T.r_HANDLERS.sq, atI_nat eh, ?_⟩
    refine ⟨hf, fd, _, _, rfl, F0, kp0, b0, _, rfl, _, rfl, _, rfl, _, _, rfl, rfl, _, rfl, _, rfl, _, rfl, lc, _, rfl, sq, fun ln hln => ?_⟩
    rw [cut_ints (by omega)]
    have gl : g ≠ ln := ne_of_none hg1 hln
    refine ⟨a, ln, own, s, (ns.drop (st + 1)).take (argN n), rfl, d.keep (Same.put hln), upd_same, by rw [List.length_take, List.length_drop]; omega, fun z => d.live z hln, fun H2 p own2 dd hp fr sub p0 hz => ?_⟩
    have g2 : H2 g = some (.lst (acc.map V.int)) := fr g _ (by rw [upd_ne gl]; exact hg1) ng
    have npg : p ≠ g := fun z => by rw [z, upd_ne gl, hg1] at p0; cases p0
    have ng2 : g ∉ own2 := fun z => by
      rcases sub g z with y | y
      · exact ng y
      · rw [upd_ne gl, hg1] at y; cases y
    have c2 : CallsAt K H2 lc (g :: own2) (ns.map V.int) := c.go fun u e no => by
      have nl : lc ≠ ln := ne_of_none e hln
      refine ⟨fr lc u (by rw [upd_ne nl]; exact e) (fun z => no (List.mem_cons_of_mem _ z)), fun z => ?_⟩
      rcases List.mem_cons.mp z with z | z
      · exact no (by rw [z]; exact List.mem_cons_self ..)
      · rcases sub lc z with y | y
        · exact no (List.mem_cons_of_mem _ y)
        · rw [upd_ne nl, e] at y; cases y
    have ec : callF n s ((ns.drop (st + 1)).take (argN n)) = Vbavab.stepRaw s [(n : Int) :: (ns.drop (st + 1)).take (argN n)] := rfl
    rw [ec] at dd hp hz
    have hacc2 : (acc ++ (((Vbavab.stepRaw s [(n : Int) :: (ns.drop (st + 1)).take (argN n)]).2.length : Int) :: (Vbavab.stepRaw s [(n : Int) :: (ns.drop (st + 1)).take (argN n)]).2)) ++ PyFlat.told (PyFlat.played Vbavab.stepRaw (Vbavab.stepRaw s [(n : Int) :: (ns.drop (st + 1)).take (argN n)]).1 cs') = PyFlat.told (PyFlat.played Vbavab.stepRaw Vbavab.start cs0) := by
      rw [← hacc, List.append_assoc]
      rfl
    generalize Vbavab.stepRaw s [(n : Int) :: (ns.drop (st + 1)).take (argN n)] = r at dd hp hz hacc2
    rw [List.length_cons] at hbd
    refine ⟨_, rfl, .inl ⟨rfl, _, SqL.of g2⟩, _, rfl, _, _, rfl, .inl (SqL.of hp), g, _, _, rfl, rfl, g2, line_of (by rw [List.length_map]; omega), ?_⟩
    refine ⟨_, rfl, .inl ⟨rfl, _, SqL.of upd_same⟩, _, rfl, g, p, _, _, rfl, rfl, upd_same, (upd_ne npg).trans hp, Nat.le_of_lt (line_of ?_), ?_⟩
    · rw [List.length_append, List.length_map, List.length_map]; show _ + 1 + _ ≤ _; omega
    refine ⟨_, rfl, ns.length - (st + 1 + argN n), by omega, st + 1 + argN n, own2, r.1, acc ++ ((r.2.length : Int) :: r.2), cs', f', some (.int (n : Nat)), some (.int ((st : Int) + 1 + (argN n : Int))), some (.ref hf), some (.ref p), ?_, (dd.off g2 ng2).off upd_same ng2, ?_, ?_, ng2, by omega, rfl, ?_, hacc2, ?_⟩
    · rw [show (((st + 1 + argN n : Nat)) : Int) = (st : Int) + 1 + (argN n : Int) by omega]; rfl
    · refine c2.go fun u e no => ⟨?_, no⟩
      have nl : lc ≠ g := fun z => no (by rw [z]; exact List.mem_cons_self ..)
      rw [upd_ne nl, upd_ne nl]; exact e
    · rw [upd_same, List.map_append, List.length_map]
      show some (HO.lst ((acc.map V.int ++ [_]) ++ r.2.map V.int)) = some (HO.lst (acc.map V.int ++ (V.int _ :: r.2.map V.int)))
      rw [List.append_assoc]
      rfl
    · rw [List.drop_drop] at hcs'
      exact hcs'
    · rw [List.length_append, List.length_cons]; omega
  · rw [decide_eq_false (show ¬ ((st : Nat) : Int) < ((ns.map V.int).length : Nat) by rw [hlen]; omega)]
    have e0 : ns.drop st = [] := List.drop_eq_nil_of_le (by omega)
    rw [e0] at hcs
    have e1 : cs = [] := by
      cases f <;> (injection hcs with z; exact z.symm)
    rw [e1] at hacc
    have hacc : acc ++ [] = _ := hacc
    rw [List.append_nil] at hacc
    exact iteF ⟨_, rfl, k H1 g (by rw [← hacc]; exact hg1)⟩
theorem ok_answers {f : Addr} {fd : FuncData} (F : Fun K "answers" "answers" s_answers f fd) (T : Txt K mg A) (c_answer_calls : CalX P w K mg base 8 "answer_calls" ["desk", "calls"] (sp_answer_calls K A)) (c_Desk : MkX P w K mg base 1 "Desk" A.cDesk ["self"] (sp_Desk_init K A)) : FnOk P w K mg base CX0 9 f fd ["calls"] (sp_answers K A) := by
  obtain ⟨f_answer_calls, fd_answer_calls, c_answer_calls⟩ := c_answer_calls
  obtain ⟨f_Desk, fd_Desk, c_Desk⟩ := c_Desk
  have nd := sc_answers.nd
  refine F.ok sc_answers (fun vs H Q E h => ?_) (fun cdv Ar outer s H vs Q E hr h => ?_)
  · obtain ⟨lc, ns, rfl, hl, hask, k⟩ := h; rfl
  obtain ⟨lc, ns, rfl, hl, hask, k⟩ := h
  refine ⟨_, (pss_one (ps_ret (pe_call c_answer_calls.ok (hr.mono (by decide)) rfl c_answer_calls.gm c_answer_calls.kp c_answer_calls.b .nil pass0 (pa_cons (pe_make0 c_Desk.mkC c_Desk.ok (hr.mono (by decide)) rfl c_Desk.gm c_Desk.b .nil pass0) (pa_cons (pv 0) pa_nil))))), ?_⟩
  intro x dx hx hdx ndx
  refine ⟨x, dx, rfl, upd_same, fun H1 own d fr sub => ⟨rfl, _, rfl, x, lc, own, ns, rfl, d, ?_, hask, k⟩⟩
  refine (CallsAt.of hl).go fun u e _ => ?_
  have n1 : lc ≠ x := ne_of_none e hx
  have n2 : lc ≠ dx := ne_of_none e hdx
  have e2 : (upd (upd H dx (.own x)) x (.ins A.cDesk dx [])) lc = some u := by rw [upd_ne n1, upd_ne n2]; exact e
  refine ⟨fr lc u e2 n1, fun z => ?_⟩
  rcases sub lc z with y | y
  · exact n1 y
  · rw [e2] at y; cases y
end
theorem ktup_mk {K : PySem.W.Frag} {t : Addr} {od : Option Addr} {its : Array Value} {n : Nat} {sl : Array (Option Value)} {xs : List V} (l : K.lookup t = some ⟨.type "tuple", od, .seq its n, sl⟩) (z : its.size ≤ sizeLine) (v : Vals xs its.toList) : KTup K t xs := ⟨_, its, n, l, rfl, rfl, z, v⟩
theorem rng_of {K : PySem.W.Frag} {t : Addr} : ∀ {as : List Addr} {rs : List (Int × Int)}, Paired (fun a (r : Int × Int) => KTup K a [.int r.1, .int r.2]) as rs → as.length = rs.length ∧ ∀ (i : Nat) (a : Addr) (r : Int × Int), as[i]? = some a → rs[i]? = some r → KTup K a [.int r.1, .int r.2]
  | _, _, .nil => ⟨rfl, fun i a r e _ => by simp at e⟩
  | _, _, .cons h t => by
    obtain ⟨h1, h2⟩ := rng_of (t := 0) t
    refine ⟨by simp [h1], fun i a r e1 e2 => ?_⟩
    cases i with
    | zero => simp at e1 e2; subst e1 e2; exact h
    | succ i => exact h2 i a r (by simpa using e1) (by simpa using e2)
theorem ns_inj {K : PySem.W.Frag} {x : Str} {a b : Addr} (h : PySem.W.nsIn K mainGlobals x = some (some (.ref a))) (h' : PySem.W.nsIn K mainGlobals x = some (some (.ref b))) : a = b := by
  have z := h.symm.trans h'; injection z with z; injection z with z; injection z
def Pk_fn (K : PySem.W.Frag) (x : Str) (st : Stmt) : Prop := ∃ f fd, PySem.W.nsIn K mainGlobals x = some (some (.ref f)) ∧ Fun K x x st f fd
theorem pk_fn {K : PySem.W.Frag} {x : Str} {st : Stmt} {f : Addr} {od an : Option Addr} {sl : Array (Option Value)} {oc kV dc pm cd ct : Value} (a : PySem.W.nsIn K mainGlobals x = some (some (.ref f)))
    (l : K.lookup f = some ⟨oc, od, .func (PySem.W.fnOf x x (defArgs st) (defBody st) (defScope st) .none kV dc pm an cd ct), sl⟩) (c : PySem.W.codeIn K cd x = true) (k : PySem.W.keepIn K (.ref f) = true) : Pk_fn K x st := ⟨f, _, a, fun_mk l c k⟩
def Pk_int (K : PySem.W.Frag) (x : Str) (v : Int) : Prop := ∃ t, PySem.W.nsIn K mainGlobals x = some (some (.int v t))
theorem pk_int {K : PySem.W.Frag} {x : Str} {v z : Int} {t : Tok} (a : PySem.W.nsIn K mainGlobals x = some (some (.int z t))) (e : z = v) : Pk_int K x v := ⟨t, e ▸ a⟩
def Pk_rng (K : PySem.W.Frag) (x : Str) (rs : List (Int × Int)) : Prop := ∃ t, PySem.W.nsIn K mainGlobals x = some (some (.ref t)) ∧ RangesAt K t rs
def Pk_tup (K : PySem.W.Frag) (x : Str) (xs : List V) : Prop := ∃ t, PySem.W.nsIn K mainGlobals x = some (some (.ref t)) ∧ KTup K t xs
theorem pk_MESSAGE_RANGES {K : PySem.W.Frag} {t : Addr} {od : Option Addr} {n : Nat} {sl : Array (Option Value)} {a0 : Addr} {od0 : Option Addr} {n0 : Nat} {sl0 : Array (Option Value)} {t0 u0 : Tok} {y0 z0 : Int} {a1 : Addr} {od1 : Option Addr} {n1 : Nat} {sl1 : Array (Option Value)} {t1 u1 : Tok} {y1 z1 : Int} {a2 : Addr} {od2 : Option Addr} {n2 : Nat} {sl2 : Array (Option Value)} {t2 u2 : Tok} {y2 z2 : Int} {a3 : Addr} {od3 : Option Addr} {n3 : Nat} {sl3 : Array (Option Value)} {t3 u3 : Tok} {y3 z3 : Int} {a4 : Addr} {od4 : Option Addr} {n4 : Nat} {sl4 : Array (Option Value)} {t4 u4 : Tok} {y4 z4 : Int} (a : PySem.W.nsIn K mainGlobals "MESSAGE_RANGES" = some (some (.ref t))) (l : K.lookup t = some ⟨.type "tuple", od, .seq #[.ref a0, .ref a1, .ref a2, .ref a3, .ref a4] n, sl⟩) (l0 : K.lookup a0 = some ⟨.type "tuple", od0, .seq #[.int y0 t0, .int z0 u0] n0, sl0⟩) (l1 : K.lookup a1 = some ⟨.type "tuple", od1, .seq #[.int y1 t1, .int z1 u1] n1, sl1⟩) (l2 : K.lookup a2 = some ⟨.type "tuple", od2, .seq #[.int y2 t2, .int z2 u2] n2, sl2⟩) (l3 : K.lookup a3 = some ⟨.type "tuple", od3, .seq #[.int y3 t3, .int z3 u3] n3, sl3⟩) (l4 : K.lookup a4 = some ⟨.type "tuple", od4, .seq #[.int y4 t4, .int z4 u4] n4, sl4⟩) (ey0 : y0 = 1) (ez0 : z0 = 64) (ey1 : y1 = 1) (ez1 : z1 = 64) (ey2 : y2 = 0) (ez2 : z2 = 63) (ey3 : y3 = 0) (ez3 : z3 = 63) (ey4 : y4 = 1) (ez4 : z4 = 3) : Pk_rng K "MESSAGE_RANGES" [(1, 64), (1, 64), (0, 63), (0, 63), (1, 3)] := by
  subst ey0 ez0 ey1 ez1 ey2 ez2 ey3 ez3 ey4 ez4
  have q : Paired (fun a (r : Int × Int) => KTup K a [.int r.1, .int r.2]) [a0, a1, a2, a3, a4] [(1, 64), (1, 64), (0, 63), (0, 63), (1, 3)] := .cons (ktup_mk l0 (by show 2 ≤ sizeLine; decide) (.cons ⟨_, rfl⟩ (.cons ⟨_, rfl⟩ .nil))) (.cons (ktup_mk l1 (by show 2 ≤ sizeLine; decide) (.cons ⟨_, rfl⟩ (.cons ⟨_, rfl⟩ .nil))) (.cons (ktup_mk l2 (by show 2 ≤ sizeLine; decide) (.cons ⟨_, rfl⟩ (.cons ⟨_, rfl⟩ .nil))) (.cons (ktup_mk l3 (by show 2 ≤ sizeLine; decide) (.cons ⟨_, rfl⟩ (.cons ⟨_, rfl⟩ .nil))) (.cons (ktup_mk l4 (by show 2 ≤ sizeLine; decide) (.cons ⟨_, rfl⟩ (.cons ⟨_, rfl⟩ .nil))) (.nil)))))
  exact ⟨t, a, [a0, a1, a2, a3, a4], ktup_mk l (by show 5 ≤ sizeLine; decide) (.cons rfl (.cons rfl (.cons rfl (.cons rfl (.cons rfl (.nil)))))), rng_of (t := t) q⟩
theorem pk_KIND_AND_GAP_RANGES {K : PySem.W.Frag} {t : Addr} {od : Option Addr} {n : Nat} {sl : Array (Option Value)} {a0 : Addr} {od0 : Option Addr} {n0 : Nat} {sl0 : Array (Option Value)} {t0 u0 : Tok} {y0 z0 : Int} {a1 : Addr} {od1 : Option Addr} {n1 : Nat} {sl1 : Array (Option Value)} {t1 u1 : Tok} {y1 z1 : Int} (a : PySem.W.nsIn K mainGlobals "KIND_AND_GAP_RANGES" = some (some (.ref t))) (l : K.lookup t = some ⟨.type "tuple", od, .seq #[.ref a0, .ref a1] n, sl⟩) (l0 : K.lookup a0 = some ⟨.type "tuple", od0, .seq #[.int y0 t0, .int z0 u0] n0, sl0⟩) (l1 : K.lookup a1 = some ⟨.type "tuple", od1, .seq #[.int y1 t1, .int z1 u1] n1, sl1⟩) (ey0 : y0 = 0) (ez0 : z0 = 1) (ey1 : y1 = 0) (ez1 : z1 = 64) : Pk_rng K "KIND_AND_GAP_RANGES" [(0, 1), (0, 64)] := by
  subst ey0 ez0 ey1 ez1
  have q : Paired (fun a (r : Int × Int) => KTup K a [.int r.1, .int r.2]) [a0, a1] [(0, 1), (0, 64)] := .cons (ktup_mk l0 (by show 2 ≤ sizeLine; decide) (.cons ⟨_, rfl⟩ (.cons ⟨_, rfl⟩ .nil))) (.cons (ktup_mk l1 (by show 2 ≤ sizeLine; decide) (.cons ⟨_, rfl⟩ (.cons ⟨_, rfl⟩ .nil))) (.nil))
  exact ⟨t, a, [a0, a1], ktup_mk l (by show 2 ≤ sizeLine; decide) (.cons rfl (.cons rfl (.nil))), rng_of (t := t) q⟩
theorem pk_BEGINNING_RANGES {K : PySem.W.Frag} {t : Addr} {od : Option Addr} {n : Nat} {sl : Array (Option Value)} {a0 : Addr} {od0 : Option Addr} {n0 : Nat} {sl0 : Array (Option Value)} {t0 u0 : Tok} {y0 z0 : Int} (a : PySem.W.nsIn K mainGlobals "BEGINNING_RANGES" = some (some (.ref t))) (l : K.lookup t = some ⟨.type "tuple", od, .seq #[.ref a0] n, sl⟩) (l0 : K.lookup a0 = some ⟨.type "tuple", od0, .seq #[.int y0 t0, .int z0 u0] n0, sl0⟩) (ey0 : y0 = 0) (ez0 : z0 = 63) : Pk_rng K "BEGINNING_RANGES" [(0, 63)] := by
  subst ey0 ez0
  have q : Paired (fun a (r : Int × Int) => KTup K a [.int r.1, .int r.2]) [a0] [(0, 63)] := .cons (ktup_mk l0 (by show 2 ≤ sizeLine; decide) (.cons ⟨_, rfl⟩ (.cons ⟨_, rfl⟩ .nil))) (.nil)
  exact ⟨t, a, [a0], ktup_mk l (by show 1 ≤ sizeLine; decide) (.cons rfl (.nil)), rng_of (t := t) q⟩
theorem pk_BUDGET_RANGES {K : PySem.W.Frag} {t : Addr} {od : Option Addr} {n : Nat} {sl : Array (Option Value)} {a0 : Addr} {od0 : Option Addr} {n0 : Nat} {sl0 : Array (Option Value)} {t0 u0 : Tok} {y0 z0 : Int} (a : PySem.W.nsIn K mainGlobals "BUDGET_RANGES" = some (some (.ref t))) (l : K.lookup t = some ⟨.type "tuple", od, .seq #[.ref a0] n, sl⟩) (l0 : K.lookup a0 = some ⟨.type "tuple", od0, .seq #[.int y0 t0, .int z0 u0] n0, sl0⟩) (ey0 : y0 = 1) (ez0 : z0 = 20000) : Pk_rng K "BUDGET_RANGES" [(1, 20000)] := by
  subst ey0 ez0
  have q : Paired (fun a (r : Int × Int) => KTup K a [.int r.1, .int r.2]) [a0] [(1, 20000)] := .cons (ktup_mk l0 (by show 2 ≤ sizeLine; decide) (.cons ⟨_, rfl⟩ (.cons ⟨_, rfl⟩ .nil))) (.nil)
  exact ⟨t, a, [a0], ktup_mk l (by show 1 ≤ sizeLine; decide) (.cons rfl (.nil)), rng_of (t := t) q⟩
theorem pk_BUS_RANGES {K : PySem.W.Frag} {t : Addr} {od : Option Addr} {n : Nat} {sl : Array (Option Value)} {a0 : Addr} {od0 : Option Addr} {n0 : Nat} {sl0 : Array (Option Value)} {t0 u0 : Tok} {y0 z0 : Int} (a : PySem.W.nsIn K mainGlobals "BUS_RANGES" = some (some (.ref t))) (l : K.lookup t = some ⟨.type "tuple", od, .seq #[.ref a0] n, sl⟩) (l0 : K.lookup a0 = some ⟨.type "tuple", od0, .seq #[.int y0 t0, .int z0 u0] n0, sl0⟩) (ey0 : y0 = 0) (ez0 : z0 = 1) : Pk_rng K "BUS_RANGES" [(0, 1)] := by
  subst ey0 ez0
  have q : Paired (fun a (r : Int × Int) => KTup K a [.int r.1, .int r.2]) [a0] [(0, 1)] := .cons (ktup_mk l0 (by show 2 ≤ sizeLine; decide) (.cons ⟨_, rfl⟩ (.cons ⟨_, rfl⟩ .nil))) (.nil)
  exact ⟨t, a, [a0], ktup_mk l (by show 1 ≤ sizeLine; decide) (.cons rfl (.nil)), rng_of (t := t) q⟩
theorem pk_BUS_AND_TIME_RANGES {K : PySem.W.Frag} {t : Addr} {od : Option Addr} {n : Nat} {sl : Array (Option Value)} {a0 : Addr} {od0 : Option Addr} {n0 : Nat} {sl0 : Array (Option Value)} {t0 u0 : Tok} {y0 z0 : Int} {a1 : Addr} {od1 : Option Addr} {n1 : Nat} {sl1 : Array (Option Value)} {t1 u1 : Tok} {y1 z1 : Int} (a : PySem.W.nsIn K mainGlobals "BUS_AND_TIME_RANGES" = some (some (.ref t))) (l : K.lookup t = some ⟨.type "tuple", od, .seq #[.ref a0, .ref a1] n, sl⟩) (l0 : K.lookup a0 = some ⟨.type "tuple", od0, .seq #[.int y0 t0, .int z0 u0] n0, sl0⟩) (l1 : K.lookup a1 = some ⟨.type "tuple", od1, .seq #[.int y1 t1, .int z1 u1] n1, sl1⟩) (ey0 : y0 = 0) (ez0 : z0 = 1) (ey1 : y1 = 0) (ez1 : z1 = 1000000000000000000) : Pk_rng K "BUS_AND_TIME_RANGES" [(0, 1), (0, 1000000000000000000)] := by
  subst ey0 ez0 ey1 ez1
  have q : Paired (fun a (r : Int × Int) => KTup K a [.int r.1, .int r.2]) [a0, a1] [(0, 1), (0, 1000000000000000000)] := .cons (ktup_mk l0 (by show 2 ≤ sizeLine; decide) (.cons ⟨_, rfl⟩ (.cons ⟨_, rfl⟩ .nil))) (.cons (ktup_mk l1 (by show 2 ≤ sizeLine; decide) (.cons ⟨_, rfl⟩ (.cons ⟨_, rfl⟩ .nil))) (.nil))
  exact ⟨t, a, [a0, a1], ktup_mk l (by show 2 ≤ sizeLine; decide) (.cons rfl (.cons rfl (.nil))), rng_of (t := t) q⟩
def Pk_HANDLERS (K : PySem.W.Frag) : Prop := ∃ t f0 f1 f2 f3 f4 f5 f6 f7 f8 f9 f10 f11 f12 f13 f14 f15 f16 f17 : Addr, PySem.W.nsIn K mainGlobals "HANDLERS" = some (some (.ref t)) ∧ KTup K t [.ref f0, .ref f1, .ref f2, .ref f3, .ref f4, .ref f5, .ref f6, .ref f7, .ref f8, .ref f9, .ref f10, .ref f11, .ref f12, .ref f13, .ref f14, .ref f15, .ref f16, .ref f17] ∧ PySem.W.nsIn K mainGlobals "answer_message" = some (some (.ref f0)) ∧ PySem.W.nsIn K mainGlobals "answer_demand" = some (some (.ref f1)) ∧ PySem.W.nsIn K mainGlobals "answer_put" = some (some (.ref f2)) ∧ PySem.W.nsIn K mainGlobals "answer_unput" = some (some (.ref f3)) ∧ PySem.W.nsIn K mainGlobals "answer_check" = some (some (.ref f4)) ∧ PySem.W.nsIn K mainGlobals "answer_search" = some (some (.ref f5)) ∧ PySem.W.nsIn K mainGlobals "answer_count" = some (some (.ref f6)) ∧ PySem.W.nsIn K mainGlobals "answer_blame" = some (some (.ref f7)) ∧ PySem.W.nsIn K mainGlobals "answer_keep" = some (some (.ref f8)) ∧ PySem.W.nsIn K mainGlobals "answer_steps" = some (some (.ref f9)) ∧ PySem.W.nsIn K mainGlobals "answer_room" = some (some (.ref f10)) ∧ PySem.W.nsIn K mainGlobals "answer_at" = some (some (.ref f11)) ∧ PySem.W.nsIn K mainGlobals "answer_next" = some (some (.ref f12)) ∧ PySem.W.nsIn K mainGlobals "answer_load" = some (some (.ref f13)) ∧ PySem.W.nsIn K mainGlobals "answer_free" = some (some (.ref f14)) ∧ PySem.W.nsIn K mainGlobals "answer_wait" = some (some (.ref f15)) ∧ PySem.W.nsIn K mainGlobals "answer_table" = some (some (.ref f16)) ∧ PySem.W.nsIn K mainGlobals "answer_state" = some (some (.ref f17))
theorem pk_HANDLERS {K : PySem.W.Frag} {t : Addr} {od : Option Addr} {n : Nat} {sl : Array (Option Value)} {f0 f1 f2 f3 f4 f5 f6 f7 f8 f9 f10 f11 f12 f13 f14 f15 f16 f17 : Addr} (a : PySem.W.nsIn K mainGlobals "HANDLERS" = some (some (.ref t))) (l : K.lookup t = some ⟨.type "tuple", od, .seq #[.ref f0, .ref f1, .ref f2, .ref f3, .ref f4, .ref f5, .ref f6, .ref f7, .ref f8, .ref f9, .ref f10, .ref f11, .ref f12, .ref f13, .ref f14, .ref f15, .ref f16, .ref f17] n, sl⟩) (a0 : PySem.W.nsIn K mainGlobals "answer_message" = some (some (.ref f0))) (a1 : PySem.W.nsIn K mainGlobals "answer_demand" = some (some (.ref f1))) (a2 : PySem.W.nsIn K mainGlobals "answer_put" = some (some (.ref f2))) (a3 : PySem.W.nsIn K mainGlobals "answer_unput" = some (some (.ref f3))) (a4 : PySem.W.nsIn K mainGlobals "answer_check" = some (some (.ref f4))) (a5 : PySem.W.nsIn K mainGlobals "answer_search" = some (some (.ref f5))) (a6 : PySem.W.nsIn K mainGlobals "answer_count" = some (some (.ref f6))) (a7 : PySem.W.nsIn K mainGlobals "answer_blame" = some (some (.ref f7))) (a8 : PySem.W.nsIn K mainGlobals "answer_keep" = some (some (.ref f8))) (a9 : PySem.W.nsIn K mainGlobals "answer_steps" = some (some (.ref f9))) (a10 : PySem.W.nsIn K mainGlobals "answer_room" = some (some (.ref f10))) (a11 : PySem.W.nsIn K mainGlobals "answer_at" = some (some (.ref f11))) (a12 : PySem.W.nsIn K mainGlobals "answer_next" = some (some (.ref f12))) (a13 : PySem.W.nsIn K mainGlobals "answer_load" = some (some (.ref f13))) (a14 : PySem.W.nsIn K mainGlobals "answer_free" = some (some (.ref f14))) (a15 : PySem.W.nsIn K mainGlobals "answer_wait" = some (some (.ref f15))) (a16 : PySem.W.nsIn K mainGlobals "answer_table" = some (some (.ref f16))) (a17 : PySem.W.nsIn K mainGlobals "answer_state" = some (some (.ref f17))) : Pk_HANDLERS K :=
  ⟨t, f0, f1, f2, f3, f4, f5, f6, f7, f8, f9, f10, f11, f12, f13, f14, f15, f16, f17, a, ktup_mk l (by show 18 ≤ sizeLine; decide) (.cons rfl (.cons rfl (.cons rfl (.cons rfl (.cons rfl (.cons rfl (.cons rfl (.cons rfl (.cons rfl (.cons rfl (.cons rfl (.cons rfl (.cons rfl (.cons rfl (.cons rfl (.cons rfl (.cons rfl (.cons rfl (.nil))))))))))))))))))), a0, a1, a2, a3, a4, a5, a6, a7, a8, a9, a10, a11, a12, a13, a14, a15, a16, a17⟩
theorem pk_ARGUMENTS {K : PySem.W.Frag} {t : Addr} {od : Option Addr} {n : Nat} {sl : Array (Option Value)} {t0 t1 t2 t3 t4 t5 t6 t7 t8 t9 t10 t11 t12 t13 t14 t15 t16 t17 : Tok} {y0 y1 y2 y3 y4 y5 y6 y7 y8 y9 y10 y11 y12 y13 y14 y15 y16 y17 : Int} (a : PySem.W.nsIn K mainGlobals "ARGUMENTS" = some (some (.ref t))) (l : K.lookup t = some ⟨.type "tuple", od, .seq #[.int y0 t0, .int y1 t1, .int y2 t2, .int y3 t3, .int y4 t4, .int y5 t5, .int y6 t6, .int y7 t7, .int y8 t8, .int y9 t9, .int y10 t10, .int y11 t11, .int y12 t12, .int y13 t13, .int y14 t14, .int y15 t15, .int y16 t16, .int y17 t17] n, sl⟩) (e0 : y0 = 5) (e1 : y1 = 4) (e2 : y2 = 2) (e3 : y3 = 1) (e4 : y4 = 0) (e5 : y5 = 1) (e6 : y6 = 1) (e7 : y7 = 1) (e8 : y8 = 0) (e9 : y9 = 0) (e10 : y10 = 1) (e11 : y11 = 2) (e12 : y12 = 2) (e13 : y13 = 1) (e14 : y14 = 1) (e15 : y15 = 2) (e16 : y16 = 0) (e17 : y17 = 0) : Pk_tup K "ARGUMENTS" [.int 5, .int 4, .int 2, .int 1, .int 0, .int 1, .int 1, .int 1, .int 0, .int 0, .int 1, .int 2, .int 2, .int 1, .int 1, .int 2, .int 0, .int 0] := by
  subst e0 e1 e2 e3 e4 e5 e6 e7 e8 e9 e10 e11 e12 e13 e14 e15 e16 e17
  exact ⟨t, a, ktup_mk l (by show 18 ≤ sizeLine; decide) (.cons ⟨_, rfl⟩ (.cons ⟨_, rfl⟩ (.cons ⟨_, rfl⟩ (.cons ⟨_, rfl⟩ (.cons ⟨_, rfl⟩ (.cons ⟨_, rfl⟩ (.cons ⟨_, rfl⟩ (.cons ⟨_, rfl⟩ (.cons ⟨_, rfl⟩ (.cons ⟨_, rfl⟩ (.cons ⟨_, rfl⟩ (.cons ⟨_, rfl⟩ (.cons ⟨_, rfl⟩ (.cons ⟨_, rfl⟩ (.cons ⟨_, rfl⟩ (.cons ⟨_, rfl⟩ (.cons ⟨_, rfl⟩ (.cons ⟨_, rfl⟩ (.nil)))))))))))))))))))⟩
def Pk_Message (K : PySem.W.Frag) : Prop := ∃ (C : Addr) (f0 : Addr) (fd0 : FuncData), PySem.W.nsIn K mainGlobals "Message" = some (some (.ref C)) ∧ Cls K C ∧ Mk K C f0 ∧ Fun K "__init__" "Message.__init__" s_Message_init f0 fd0 ∧ NoAttr K C "period" ∧ NoAttr K C "length" ∧ NoAttr K C "earliest" ∧ NoAttr K C "latest" ∧ NoAttr K C "buses"
theorem pk_Message {K : PySem.W.Frag} {C : Addr} {f0 : Addr} {od0 an0 : Option Addr} {sl0 : Array (Option Value)} {oc0 kV0 dc0 pm0 cd0 ct0 : Value} (aC : PySem.W.nsIn K mainGlobals "Message" = some (some (.ref C))) (a0 : PySem.W.findIn K (.ref C) "__init__" = some (some (.ref f0))) (i0 : PySem.W.isFn K (.ref f0) = true) (l0 : K.lookup f0 = some ⟨oc0, od0, .func (PySem.W.fnOf "__init__" "Message.__init__" (defArgs s_Message_init) (defBody s_Message_init) (defScope s_Message_init) .none kV0 dc0 pm0 an0 cd0 ct0), sl0⟩) (c0 : PySem.W.codeIn K cd0 "Message.__init__" = true) (k0 : PySem.W.keepIn K (.ref f0) = true) (pg : PySem.W.plainGet K C Str.empty = true) (hd : PySem.W.hasDictIn K C = true) (po : PySem.W.plainOver K C = true) (sa : PySem.W.findIn K (.ref C) "__setattr__" = some (some (.builtin "object.__setattr__"))) (mk : PySem.W.makesIn K C = true) (kc : PySem.W.keepIn K (.ref C) = true) (n_period : PySem.W.findIn K (.ref C) "period" = some none) (n_length : PySem.W.findIn K (.ref C) "length" = some none) (n_earliest : PySem.W.findIn K (.ref C) "earliest" = some none) (n_latest : PySem.W.findIn K (.ref C) "latest" = some none) (n_buses : PySem.W.findIn K (.ref C) "buses" = some none) : Pk_Message K :=
  ⟨C, f0, _, aC, ⟨pg, hd, po, sa⟩, ⟨mk, a0, i0, kc⟩, fun_mk l0 c0 k0, n_period, n_length, n_earliest, n_latest, n_buses⟩
def Pk_Demand (K : PySem.W.Frag) : Prop := ∃ (C : Addr) (f0 : Addr) (fd0 : FuncData), PySem.W.nsIn K mainGlobals "Demand" = some (some (.ref C)) ∧ Cls K C ∧ Mk K C f0 ∧ Fun K "__init__" "Demand.__init__" s_Demand_init f0 fd0 ∧ NoAttr K C "kind" ∧ NoAttr K C "first" ∧ NoAttr K C "second" ∧ NoAttr K C "gap"
theorem pk_Demand {K : PySem.W.Frag} {C : Addr} {f0 : Addr} {od0 an0 : Option Addr} {sl0 : Array (Option Value)} {oc0 kV0 dc0 pm0 cd0 ct0 : Value} (aC : PySem.W.nsIn K mainGlobals "Demand" = some (some (.ref C))) (a0 : PySem.W.findIn K (.ref C) "__init__" = some (some (.ref f0))) (i0 : PySem.W.isFn K (.ref f0) = true) (l0 : K.lookup f0 = some ⟨oc0, od0, .func (PySem.W.fnOf "__init__" "Demand.__init__" (defArgs s_Demand_init) (defBody s_Demand_init) (defScope s_Demand_init) .none kV0 dc0 pm0 an0 cd0 ct0), sl0⟩) (c0 : PySem.W.codeIn K cd0 "Demand.__init__" = true) (k0 : PySem.W.keepIn K (.ref f0) = true) (pg : PySem.W.plainGet K C Str.empty = true) (hd : PySem.W.hasDictIn K C = true) (po : PySem.W.plainOver K C = true) (sa : PySem.W.findIn K (.ref C) "__setattr__" = some (some (.builtin "object.__setattr__"))) (mk : PySem.W.makesIn K C = true) (kc : PySem.W.keepIn K (.ref C) = true) (n_kind : PySem.W.findIn K (.ref C) "kind" = some none) (n_first : PySem.W.findIn K (.ref C) "first" = some none) (n_second : PySem.W.findIn K (.ref C) "second" = some none) (n_gap : PySem.W.findIn K (.ref C) "gap" = some none) : Pk_Demand K :=
  ⟨C, f0, _, aC, ⟨pg, hd, po, sa⟩, ⟨mk, a0, i0, kc⟩, fun_mk l0 c0 k0, n_kind, n_first, n_second, n_gap⟩
def Pk_Walk (K : PySem.W.Frag) : Prop := ∃ (C : Addr) (f0 : Addr) (fd0 : FuncData) (f1 : Addr) (fd1 : FuncData) (f2 : Addr) (fd2 : FuncData) (f3 : Addr) (fd3 : FuncData) (f4 : Addr) (fd4 : FuncData), PySem.W.nsIn K mainGlobals "Walk" = some (some (.ref C)) ∧ Cls K C ∧ Mk K C f0 ∧ Fun K "__init__" "Walk.__init__" s_Walk_init f0 fd0 ∧ Fun K "is_full" "Walk.is_full" s_Walk_is_full f1 fd1 ∧ Fun K "enter_message" "Walk.enter_message" s_Walk_enter_message f2 fd2 ∧ Fun K "go_back" "Walk.go_back" s_Walk_go_back f3 fd3 ∧ Fun K "take_step" "Walk.take_step" s_Walk_take_step f4 fd4 ∧ Meth K C "is_full" f1 ∧ Meth K C "enter_message" f2 ∧ Meth K C "go_back" f3 ∧ Meth K C "take_step" f4 ∧ NoAttr K C "messages" ∧ NoAttr K C "leads" ∧ NoAttr K C "size" ∧ NoAttr K C "budget" ∧ NoAttr K C "chosen" ∧ NoAttr K C "looked" ∧ NoAttr K C "rooms" ∧ NoAttr K C "tables" ∧ NoAttr K C "ended"
theorem pk_Walk {K : PySem.W.Frag} {C : Addr} {f0 : Addr} {od0 an0 : Option Addr} {sl0 : Array (Option Value)} {oc0 kV0 dc0 pm0 cd0 ct0 : Value} {f1 : Addr} {od1 an1 : Option Addr} {sl1 : Array (Option Value)} {oc1 kV1 dc1 pm1 cd1 ct1 : Value} {f2 : Addr} {od2 an2 : Option Addr} {sl2 : Array (Option Value)} {oc2 kV2 dc2 pm2 cd2 ct2 : Value} {f3 : Addr} {od3 an3 : Option Addr} {sl3 : Array (Option Value)} {oc3 kV3 dc3 pm3 cd3 ct3 : Value} {f4 : Addr} {od4 an4 : Option Addr} {sl4 : Array (Option Value)} {oc4 kV4 dc4 pm4 cd4 ct4 : Value} (aC : PySem.W.nsIn K mainGlobals "Walk" = some (some (.ref C))) (a0 : PySem.W.findIn K (.ref C) "__init__" = some (some (.ref f0))) (i0 : PySem.W.isFn K (.ref f0) = true) (l0 : K.lookup f0 = some ⟨oc0, od0, .func (PySem.W.fnOf "__init__" "Walk.__init__" (defArgs s_Walk_init) (defBody s_Walk_init) (defScope s_Walk_init) .none kV0 dc0 pm0 an0 cd0 ct0), sl0⟩) (c0 : PySem.W.codeIn K cd0 "Walk.__init__" = true) (k0 : PySem.W.keepIn K (.ref f0) = true) (a1 : PySem.W.findIn K (.ref C) "is_full" = some (some (.ref f1))) (i1 : PySem.W.isFn K (.ref f1) = true) (l1 : K.lookup f1 = some ⟨oc1, od1, .func (PySem.W.fnOf "is_full" "Walk.is_full" (defArgs s_Walk_is_full) (defBody s_Walk_is_full) (defScope s_Walk_is_full) .none kV1 dc1 pm1 an1 cd1 ct1), sl1⟩) (c1 : PySem.W.codeIn K cd1 "Walk.is_full" = true) (k1 : PySem.W.keepIn K (.ref f1) = true) (a2 : PySem.W.findIn K (.ref C) "enter_message" = some (some (.ref f2))) (i2 : PySem.W.isFn K (.ref f2) = true) (l2 : K.lookup f2 = some ⟨oc2, od2, .func (PySem.W.fnOf "enter_message" "Walk.enter_message" (defArgs s_Walk_enter_message) (defBody s_Walk_enter_message) (defScope s_Walk_enter_message) .none kV2 dc2 pm2 an2 cd2 ct2), sl2⟩) (c2 : PySem.W.codeIn K cd2 "Walk.enter_message" = true) (k2 : PySem.W.keepIn K (.ref f2) = true) (a3 : PySem.W.findIn K (.ref C) "go_back" = some (some (.ref f3))) (i3 : PySem.W.isFn K (.ref f3) = true) (l3 : K.lookup f3 = some ⟨oc3, od3, .func (PySem.W.fnOf "go_back" "Walk.go_back" (defArgs s_Walk_go_back) (defBody s_Walk_go_back) (defScope s_Walk_go_back) .none kV3 dc3 pm3 an3 cd3 ct3), sl3⟩) (c3 : PySem.W.codeIn K cd3 "Walk.go_back" = true) (k3 : PySem.W.keepIn K (.ref f3) = true) (a4 : PySem.W.findIn K (.ref C) "take_step" = some (some (.ref f4))) (i4 : PySem.W.isFn K (.ref f4) = true) (l4 : K.lookup f4 = some ⟨oc4, od4, .func (PySem.W.fnOf "take_step" "Walk.take_step" (defArgs s_Walk_take_step) (defBody s_Walk_take_step) (defScope s_Walk_take_step) .none kV4 dc4 pm4 an4 cd4 ct4), sl4⟩) (c4 : PySem.W.codeIn K cd4 "Walk.take_step" = true) (k4 : PySem.W.keepIn K (.ref f4) = true) (pg : PySem.W.plainGet K C Str.empty = true) (hd : PySem.W.hasDictIn K C = true) (po : PySem.W.plainOver K C = true) (sa : PySem.W.findIn K (.ref C) "__setattr__" = some (some (.builtin "object.__setattr__"))) (mk : PySem.W.makesIn K C = true) (kc : PySem.W.keepIn K (.ref C) = true) (n_messages : PySem.W.findIn K (.ref C) "messages" = some none) (n_leads : PySem.W.findIn K (.ref C) "leads" = some none) (n_size : PySem.W.findIn K (.ref C) "size" = some none) (n_budget : PySem.W.findIn K (.ref C) "budget" = some none) (n_chosen : PySem.W.findIn K (.ref C) "chosen" = some none) (n_looked : PySem.W.findIn K (.ref C) "looked" = some none) (n_rooms : PySem.W.findIn K (.ref C) "rooms" = some none) (n_tables : PySem.W.findIn K (.ref C) "tables" = some none) (n_ended : PySem.W.findIn K (.ref C) "ended" = some none) : Pk_Walk K :=
  ⟨C, f0, _, f1, _, f2, _, f3, _, f4, _, aC, ⟨pg, hd, po, sa⟩, ⟨mk, a0, i0, kc⟩, fun_mk l0 c0 k0, fun_mk l1 c1 k1, fun_mk l2 c2 k2, fun_mk l3 c3 k3, fun_mk l4 c4 k4, ⟨a1, i1, k1⟩, ⟨a2, i2, k2⟩, ⟨a3, i3, k3⟩, ⟨a4, i4, k4⟩, n_messages, n_leads, n_size, n_budget, n_chosen, n_looked, n_rooms, n_tables, n_ended⟩
def Pk_Desk (K : PySem.W.Frag) : Prop := ∃ (C : Addr) (f0 : Addr) (fd0 : FuncData), PySem.W.nsIn K mainGlobals "Desk" = some (some (.ref C)) ∧ Cls K C ∧ Mk K C f0 ∧ Fun K "__init__" "Desk.__init__" s_Desk_init f0 fd0 ∧ NoAttr K C "messages" ∧ NoAttr K C "demands" ∧ NoAttr K C "table" ∧ NoAttr K C "kept"
theorem pk_Desk {K : PySem.W.Frag} {C : Addr} {f0 : Addr} {od0 an0 : Option Addr} {sl0 : Array (Option Value)} {oc0 kV0 dc0 pm0 cd0 ct0 : Value} (aC : PySem.W.nsIn K mainGlobals "Desk" = some (some (.ref C))) (a0 : PySem.W.findIn K (.ref C) "__init__" = some (some (.ref f0))) (i0 : PySem.W.isFn K (.ref f0) = true) (l0 : K.lookup f0 = some ⟨oc0, od0, .func (PySem.W.fnOf "__init__" "Desk.__init__" (defArgs s_Desk_init) (defBody s_Desk_init) (defScope s_Desk_init) .none kV0 dc0 pm0 an0 cd0 ct0), sl0⟩) (c0 : PySem.W.codeIn K cd0 "Desk.__init__" = true) (k0 : PySem.W.keepIn K (.ref f0) = true) (pg : PySem.W.plainGet K C Str.empty = true) (hd : PySem.W.hasDictIn K C = true) (po : PySem.W.plainOver K C = true) (sa : PySem.W.findIn K (.ref C) "__setattr__" = some (some (.builtin "object.__setattr__"))) (mk : PySem.W.makesIn K C = true) (kc : PySem.W.keepIn K (.ref C) = true) (n_messages : PySem.W.findIn K (.ref C) "messages" = some none) (n_demands : PySem.W.findIn K (.ref C) "demands" = some none) (n_table : PySem.W.findIn K (.ref C) "table" = some none) (n_kept : PySem.W.findIn K (.ref C) "kept" = some none) : Pk_Desk K :=
  ⟨C, f0, _, aC, ⟨pg, hd, po, sa⟩, ⟨mk, a0, i0, kc⟩, fun_mk l0 c0 k0, n_messages, n_demands, n_table, n_kept⟩
theorem all_mk {P : Program} {w : World} {K : PySem.W.Frag} {h : Heap} {mg : Str → Option Value} {fa : Addr} (X : K.In h) (G : h.Ns mainGlobals mg) (hfa : mg "answers" = some (.ref fa))
    (z_any : PySem.W.nsIn K mainGlobals "any" = some none)
    (z_enumerate : PySem.W.nsIn K mainGlobals "enumerate" = some none)
    (z_len : PySem.W.nsIn K mainGlobals "len" = some none)
    (z_list : PySem.W.nsIn K mainGlobals "list" = some none)
    (z_max : PySem.W.nsIn K mainGlobals "max" = some none)
    (z_min : PySem.W.nsIn K mainGlobals "min" = some none)
    (z_range : PySem.W.nsIn K mainGlobals "range" = some none)
    (z_sum : PySem.W.nsIn K mainGlobals "sum" = some none)
    (z_zip : PySem.W.nsIn K mainGlobals "zip" = some none)
    (p_NOT_PUT : Pk_int K "NOT_PUT" (-1))
    (p_FAULT_NOT_PUT : Pk_int K "FAULT_NOT_PUT" 1)
    (p_FAULT_COLLIDE : Pk_int K "FAULT_COLLIDE" 2)
    (p_FAULT_DEMAND : Pk_int K "FAULT_DEMAND" 3)
    (p_LEAD_SHIFT : Pk_int K "LEAD_SHIFT" 63)
    (p_OUT_OF_RANGE : Pk_int K "OUT_OF_RANGE" (-1))
    (p_NO_MESSAGE : Pk_int K "NO_MESSAGE" (-4))
    (p_NO_FIT : Pk_int K "NO_FIT" (-5))
    (p_NONE_THERE : Pk_int K "NONE_THERE" (-6))
    (p_NOTHING_PUT : Pk_int K "NOTHING_PUT" (-7))
    (p_FULL : Pk_int K "FULL" (-8))
    (p_UNLIKE_PERIODS : Pk_int K "UNLIKE_PERIODS" (-9))
    (p_SPENT : Pk_int K "SPENT" (-10))
    (p_NOT_GOOD : Pk_int K "NOT_GOOD" (-11))
    (p_TOO_LONG : Pk_int K "TOO_LONG" (-12))
    (p_MOST_MESSAGES : Pk_int K "MOST_MESSAGES" 8)
    (p_MOST_DEMANDS : Pk_int K "MOST_DEMANDS" 16)
    (p_LONGEST_ROUND : Pk_int K "LONGEST_ROUND" 5000)
    (p_MESSAGE_RANGES : Pk_rng K "MESSAGE_RANGES" [(1, 64), (1, 64), (0, 63), (0, 63), (1, 3)])
    (p_KIND_AND_GAP_RANGES : Pk_rng K "KIND_AND_GAP_RANGES" [(0, 1), (0, 64)])
    (p_BEGINNING_RANGES : Pk_rng K "BEGINNING_RANGES" [(0, 63)])
    (p_BUDGET_RANGES : Pk_rng K "BUDGET_RANGES" [(1, 20000)])
    (p_BUS_RANGES : Pk_rng K "BUS_RANGES" [(0, 1)])
    (p_BUS_AND_TIME_RANGES : Pk_rng K "BUS_AND_TIME_RANGES" [(0, 1), (0, 1000000000000000000)])
    (p_HANDLERS : Pk_HANDLERS K)
    (p_ARGUMENTS : Pk_tup K "ARGUMENTS" [.int 5, .int 4, .int 2, .int 1, .int 0, .int 1, .int 1, .int 1, .int 0, .int 0, .int 1, .int 2, .int 2, .int 1, .int 1, .int 2, .int 0, .int 0])
    (p_Message : Pk_Message K)
    (p_Demand : Pk_Demand K)
    (p_Walk : Pk_Walk K)
    (p_Desk : Pk_Desk K)
    (p_common_divisor : Pk_fn K "common_divisor" s_common_divisor)
    (p_keep_apart : Pk_fn K "keep_apart" s_keep_apart)
    (p_collide : Pk_fn K "collide" s_collide)
    (p_is_met : Pk_fn K "is_met" s_is_met)
    (p_demands_between : Pk_fn K "demands_between" s_demands_between)
    (p_lead_fits : Pk_fn K "lead_fits" s_lead_fits)
    (p_both_put : Pk_fn K "both_put" s_both_put)
    (p_missing_messages : Pk_fn K "missing_messages" s_missing_messages)
    (p_colliding_pairs : Pk_fn K "colliding_pairs" s_colliding_pairs)
    (p_unmet_demands : Pk_fn K "unmet_demands" s_unmet_demands)
    (p_table_faults : Pk_fn K "table_faults" s_table_faults)
    (p_room_of : Pk_fn K "room_of" s_room_of)
    (p_moving_messages : Pk_fn K "moving_messages" s_moving_messages)
    (p_barring_messages : Pk_fn K "barring_messages" s_barring_messages)
    (p_first_unbarred : Pk_fn K "first_unbarred" s_first_unbarred)
    (p_move_order : Pk_fn K "move_order" s_move_order)
    (p_goes_on : Pk_fn K "goes_on" s_goes_on)
    (p_put_on_bus : Pk_fn K "put_on_bus" s_put_on_bus)
    (p_message_at : Pk_fn K "message_at" s_message_at)
    (p_next_message : Pk_fn K "next_message" s_next_message)
    (p_round_length : Pk_fn K "round_length" s_round_length)
    (p_bus_load : Pk_fn K "bus_load" s_bus_load)
    (p_taken_slots : Pk_fn K "taken_slots" s_taken_slots)
    (p_longest_free_run : Pk_fn K "longest_free_run" s_longest_free_run)
    (p_longest_wait : Pk_fn K "longest_wait" s_longest_wait)
    (p_pair_leads : Pk_fn K "pair_leads" s_pair_leads)
    (p_fitting_leads : Pk_fn K "fitting_leads" s_fitting_leads)
    (p_search_table : Pk_fn K "search_table" s_search_table)
    (p_count_tables : Pk_fn K "count_tables" s_count_tables)
    (p_in_ranges : Pk_fn K "in_ranges" s_in_ranges)
    (p_has_message : Pk_fn K "has_message" s_has_message)
    (p_is_good : Pk_fn K "is_good" s_is_good)
    (p_as_row : Pk_fn K "as_row" s_as_row)
    (p_answer_message : Pk_fn K "answer_message" s_answer_message)
    (p_answer_demand : Pk_fn K "answer_demand" s_answer_demand)
    (p_answer_put : Pk_fn K "answer_put" s_answer_put)
    (p_answer_unput : Pk_fn K "answer_unput" s_answer_unput)
    (p_answer_check : Pk_fn K "answer_check" s_answer_check)
    (p_answer_search : Pk_fn K "answer_search" s_answer_search)
    (p_answer_count : Pk_fn K "answer_count" s_answer_count)
    (p_answer_blame : Pk_fn K "answer_blame" s_answer_blame)
    (p_answer_keep : Pk_fn K "answer_keep" s_answer_keep)
    (p_answer_steps : Pk_fn K "answer_steps" s_answer_steps)
    (p_answer_room : Pk_fn K "answer_room" s_answer_room)
    (p_answer_at : Pk_fn K "answer_at" s_answer_at)
    (p_answer_next : Pk_fn K "answer_next" s_answer_next)
    (p_answer_load : Pk_fn K "answer_load" s_answer_load)
    (p_answer_free : Pk_fn K "answer_free" s_answer_free)
    (p_answer_wait : Pk_fn K "answer_wait" s_answer_wait)
    (p_answer_table : Pk_fn K "answer_table" s_answer_table)
    (p_answer_state : Pk_fn K "answer_state" s_answer_state)
    (p_answer_calls : Pk_fn K "answer_calls" s_answer_calls)
    (p_answers : Pk_fn K "answers" s_answers) :
    ∃ fd : FuncData, (∀ (s : Shared) (us : List Value), us.length = (["calls"] : List Str).length → BindsTo s fd ⟨us, []⟩ ((["calls"] : List Str).zip us)) ∧ ∀ base : Heap, K.In base → base.Ns mainGlobals mg → FnOk P w K mg base CX0 9 fa fd ["calls"] (sp_top K) := by
  obtain ⟨tk_NOT_PUT, a_NOT_PUT⟩ := p_NOT_PUT
  obtain ⟨tk_FAULT_NOT_PUT, a_FAULT_NOT_PUT⟩ := p_FAULT_NOT_PUT
  obtain ⟨tk_FAULT_COLLIDE, a_FAULT_COLLIDE⟩ := p_FAULT_COLLIDE
  obtain ⟨tk_FAULT_DEMAND, a_FAULT_DEMAND⟩ := p_FAULT_DEMAND
  obtain ⟨tk_LEAD_SHIFT, a_LEAD_SHIFT⟩ := p_LEAD_SHIFT
  obtain ⟨tk_OUT_OF_RANGE, a_OUT_OF_RANGE⟩ := p_OUT_OF_RANGE
  obtain ⟨tk_NO_MESSAGE, a_NO_MESSAGE⟩ := p_NO_MESSAGE
  obtain ⟨tk_NO_FIT, a_NO_FIT⟩ := p_NO_FIT
  obtain ⟨tk_NONE_THERE, a_NONE_THERE⟩ := p_NONE_THERE
  obtain ⟨tk_NOTHING_PUT, a_NOTHING_PUT⟩ := p_NOTHING_PUT
  obtain ⟨tk_FULL, a_FULL⟩ := p_FULL
  obtain ⟨tk_UNLIKE_PERIODS, a_UNLIKE_PERIODS⟩ := p_UNLIKE_PERIODS
  obtain ⟨tk_SPENT, a_SPENT⟩ := p_SPENT
  obtain ⟨tk_NOT_GOOD, a_NOT_GOOD⟩ := p_NOT_GOOD
  obtain ⟨tk_TOO_LONG, a_TOO_LONG⟩ := p_TOO_LONG
  obtain ⟨tk_MOST_MESSAGES, a_MOST_MESSAGES⟩ := p_MOST_MESSAGES
  obtain ⟨tk_MOST_DEMANDS, a_MOST_DEMANDS⟩ := p_MOST_DEMANDS
  obtain ⟨tk_LONGEST_ROUND, a_LONGEST_ROUND⟩ := p_LONGEST_ROUND
  obtain ⟨t_MESSAGE_RANGES, a_MESSAGE_RANGES, r_MESSAGE_RANGES⟩ := p_MESSAGE_RANGES
  obtain ⟨t_KIND_AND_GAP_RANGES, a_KIND_AND_GAP_RANGES, r_KIND_AND_GAP_RANGES⟩ := p_KIND_AND_GAP_RANGES
  obtain ⟨t_BEGINNING_RANGES, a_BEGINNING_RANGES, r_BEGINNING_RANGES⟩ := p_BEGINNING_RANGES
  obtain ⟨t_BUDGET_RANGES, a_BUDGET_RANGES, r_BUDGET_RANGES⟩ := p_BUDGET_RANGES
  obtain ⟨t_BUS_RANGES, a_BUS_RANGES, r_BUS_RANGES⟩ := p_BUS_RANGES
  obtain ⟨t_BUS_AND_TIME_RANGES, a_BUS_AND_TIME_RANGES, r_BUS_AND_TIME_RANGES⟩ := p_BUS_AND_TIME_RANGES
  obtain ⟨t_HANDLERS, h_answer_message, h_answer_demand, h_answer_put, h_answer_unput, h_answer_check, h_answer_search, h_answer_count, h_answer_blame, h_answer_keep, h_answer_steps, h_answer_room, h_answer_at, h_answer_next, h_answer_load, h_answer_free, h_answer_wait, h_answer_table, h_answer_state, a_HANDLERS, r_HANDLERS, ha_answer_message, ha_answer_demand, ha_answer_put, ha_answer_unput, ha_answer_check, ha_answer_search, ha_answer_count, ha_answer_blame, ha_answer_keep, ha_answer_steps, ha_answer_room, ha_answer_at, ha_answer_next, ha_answer_load, ha_answer_free, ha_answer_wait, ha_answer_table, ha_answer_state⟩ := p_HANDLERS
  obtain ⟨t_ARGUMENTS, a_ARGUMENTS, r_ARGUMENTS⟩ := p_ARGUMENTS
  obtain ⟨c_Message, f_Message_init, fd_Message_init, aC_Message, cl_Message, mk_Message, F_Message_init, n_Message_period, n_Message_length, n_Message_earliest, n_Message_latest, n_Message_buses⟩ := p_Message
  obtain ⟨c_Demand, f_Demand_init, fd_Demand_init, aC_Demand, cl_Demand, mk_Demand, F_Demand_init, n_Demand_kind, n_Demand_first, n_Demand_second, n_Demand_gap⟩ := p_Demand
  obtain ⟨c_Walk, f_Walk_init, fd_Walk_init, f_Walk_is_full, fd_Walk_is_full, f_Walk_enter_message, fd_Walk_enter_message, f_Walk_go_back, fd_Walk_go_back, f_Walk_take_step, fd_Walk_take_step, aC_Walk, cl_Walk, mk_Walk, F_Walk_init, F_Walk_is_full, F_Walk_enter_message, F_Walk_go_back, F_Walk_take_step, me_Walk_is_full, me_Walk_enter_message, me_Walk_go_back, me_Walk_take_step, n_Walk_messages, n_Walk_leads, n_Walk_size, n_Walk_budget, n_Walk_chosen, n_Walk_looked, n_Walk_rooms, n_Walk_tables, n_Walk_ended⟩ := p_Walk
  obtain ⟨c_Desk, f_Desk_init, fd_Desk_init, aC_Desk, cl_Desk, mk_Desk, F_Desk_init, n_Desk_messages, n_Desk_demands, n_Desk_table, n_Desk_kept⟩ := p_Desk
  obtain ⟨f_common_divisor, fd_common_divisor, a_common_divisor, F_common_divisor⟩ := p_common_divisor
  obtain ⟨f_keep_apart, fd_keep_apart, a_keep_apart, F_keep_apart⟩ := p_keep_apart
  obtain ⟨f_collide, fd_collide, a_collide, F_collide⟩ := p_collide
  obtain ⟨f_is_met, fd_is_met, a_is_met, F_is_met⟩ := p_is_met
  obtain ⟨f_demands_between, fd_demands_between, a_demands_between, F_demands_between⟩ := p_demands_between
  obtain ⟨f_lead_fits, fd_lead_fits, a_lead_fits, F_lead_fits⟩ := p_lead_fits
  obtain ⟨f_both_put, fd_both_put, a_both_put, F_both_put⟩ := p_both_put
  obtain ⟨f_missing_messages, fd_missing_messages, a_missing_messages, F_missing_messages⟩ := p_missing_messages
  obtain ⟨f_colliding_pairs, fd_colliding_pairs, a_colliding_pairs, F_colliding_pairs⟩ := p_colliding_pairs
  obtain ⟨f_unmet_demands, fd_unmet_demands, a_unmet_demands, F_unmet_demands⟩ := p_unmet_demands
  obtain ⟨f_table_faults, fd_table_faults, a_table_faults, F_table_faults⟩ := p_table_faults
  obtain ⟨f_room_of, fd_room_of, a_room_of, F_room_of⟩ := p_room_of
  obtain ⟨f_moving_messages, fd_moving_messages, a_moving_messages, F_moving_messages⟩ := p_moving_messages
  obtain ⟨f_barring_messages, fd_barring_messages, a_barring_messages, F_barring_messages⟩ := p_barring_messages
  obtain ⟨f_first_unbarred, fd_first_unbarred, a_first_unbarred, F_first_unbarred⟩ := p_first_unbarred
  obtain ⟨f_move_order, fd_move_order, a_move_order, F_move_order⟩ := p_move_order
  obtain ⟨f_goes_on, fd_goes_on, a_goes_on, F_goes_on⟩ := p_goes_on
  obtain ⟨f_put_on_bus, fd_put_on_bus, a_put_on_bus, F_put_on_bus⟩ := p_put_on_bus
  obtain ⟨f_message_at, fd_message_at, a_message_at, F_message_at⟩ := p_message_at
  obtain ⟨f_next_message, fd_next_message, a_next_message, F_next_message⟩ := p_next_message
  obtain ⟨f_round_length, fd_round_length, a_round_length, F_round_length⟩ := p_round_length
  obtain ⟨f_bus_load, fd_bus_load, a_bus_load, F_bus_load⟩ := p_bus_load
  obtain ⟨f_taken_slots, fd_taken_slots, a_taken_slots, F_taken_slots⟩ := p_taken_slots
  obtain ⟨f_longest_free_run, fd_longest_free_run, a_longest_free_run, F_longest_free_run⟩ := p_longest_free_run
  obtain ⟨f_longest_wait, fd_longest_wait, a_longest_wait, F_longest_wait⟩ := p_longest_wait
  obtain ⟨f_pair_leads, fd_pair_leads, a_pair_leads, F_pair_leads⟩ := p_pair_leads
  obtain ⟨f_fitting_leads, fd_fitting_leads, a_fitting_leads, F_fitting_leads⟩ := p_fitting_leads
  obtain ⟨f_search_table, fd_search_table, a_search_table, F_search_table⟩ := p_search_table
  obtain ⟨f_count_tables, fd_count_tables, a_count_tables, F_count_tables⟩ := p_count_tables
  obtain ⟨f_in_ranges, fd_in_ranges, a_in_ranges, F_in_ranges⟩ := p_in_ranges
  obtain ⟨f_has_message, fd_has_message, a_has_message, F_has_message⟩ := p_has_message
  obtain ⟨f_is_good, fd_is_good, a_is_good, F_is_good⟩ := p_is_good
  obtain ⟨f_as_row, fd_as_row, a_as_row, F_as_row⟩ := p_as_row
  obtain ⟨f_answer_message, fd_answer_message, a_answer_message, F_answer_message⟩ := p_answer_message
  obtain ⟨f_answer_demand, fd_answer_demand, a_answer_demand, F_answer_demand⟩ := p_answer_demand
  obtain ⟨f_answer_put, fd_answer_put, a_answer_put, F_answer_put⟩ := p_answer_put
  obtain ⟨f_answer_unput, fd_answer_unput, a_answer_unput, F_answer_unput⟩ := p_answer_unput
  obtain ⟨f_answer_check, fd_answer_check, a_answer_check, F_answer_check⟩ := p_answer_check
  obtain ⟨f_answer_search, fd_answer_search, a_answer_search, F_answer_search⟩ := p_answer_search
  obtain ⟨f_answer_count, fd_answer_count, a_answer_count, F_answer_count⟩ := p_answer_count
  obtain ⟨f_answer_blame, fd_answer_blame, a_answer_blame, F_answer_blame⟩ := p_answer_blame
  obtain ⟨f_answer_keep, fd_answer_keep, a_answer_keep, F_answer_keep⟩ := p_answer_keep
  obtain ⟨f_answer_steps, fd_answer_steps, a_answer_steps, F_answer_steps⟩ := p_answer_steps
  obtain ⟨f_answer_room, fd_answer_room, a_answer_room, F_answer_room⟩ := p_answer_room
  obtain ⟨f_answer_at, fd_answer_at, a_answer_at, F_answer_at⟩ := p_answer_at
  obtain ⟨f_answer_next, fd_answer_next, a_answer_next, F_answer_next⟩ := p_answer_next
  obtain ⟨f_answer_load, fd_answer_load, a_answer_load, F_answer_load⟩ := p_answer_load
  obtain ⟨f_answer_free, fd_answer_free, a_answer_free, F_answer_free⟩ := p_answer_free
  obtain ⟨f_answer_wait, fd_answer_wait, a_answer_wait, F_answer_wait⟩ := p_answer_wait
  obtain ⟨f_answer_table, fd_answer_table, a_answer_table, F_answer_table⟩ := p_answer_table
  obtain ⟨f_answer_state, fd_answer_state, a_answer_state, F_answer_state⟩ := p_answer_state
  obtain ⟨f_answer_calls, fd_answer_calls, a_answer_calls, F_answer_calls⟩ := p_answer_calls
  obtain ⟨f_answers, fd_answers, a_answers, F_answers⟩ := p_answers
  cases ns_inj ha_answer_message a_answer_message
  cases ns_inj ha_answer_demand a_answer_demand
  cases ns_inj ha_answer_put a_answer_put
  cases ns_inj ha_answer_unput a_answer_unput
  cases ns_inj ha_answer_check a_answer_check
  cases ns_inj ha_answer_search a_answer_search
  cases ns_inj ha_answer_count a_answer_count
  cases ns_inj ha_answer_blame a_answer_blame
  cases ns_inj ha_answer_keep a_answer_keep
  cases ns_inj ha_answer_steps a_answer_steps
  cases ns_inj ha_answer_room a_answer_room
  cases ns_inj ha_answer_at a_answer_at
  cases ns_inj ha_answer_next a_answer_next
  cases ns_inj ha_answer_load a_answer_load
  cases ns_inj ha_answer_free a_answer_free
  cases ns_inj ha_answer_wait a_answer_wait
  cases ns_inj ha_answer_table a_answer_table
  cases ns_inj ha_answer_state a_answer_state
  let A : Adr := ⟨c_Message, c_Demand, c_Walk, c_Desk, t_MESSAGE_RANGES, t_KIND_AND_GAP_RANGES, t_BEGINNING_RANGES, t_BUDGET_RANGES, t_BUS_RANGES, t_BUS_AND_TIME_RANGES, t_HANDLERS, t_ARGUMENTS, h_answer_message, h_answer_demand, h_answer_put, h_answer_unput, h_answer_check, h_answer_search, h_answer_count, h_answer_blame, h_answer_keep, h_answer_steps, h_answer_room, h_answer_at, h_answer_next, h_answer_load, h_answer_free, h_answer_wait, h_answer_table, h_answer_state⟩
  have T : Txt K mg A := ⟨PySem.W.mg_none_of X G z_any, PySem.W.mg_none_of X G z_enumerate, PySem.W.mg_none_of X G z_len, PySem.W.mg_none_of X G z_list, PySem.W.mg_none_of X G z_max, PySem.W.mg_none_of X G z_min, PySem.W.mg_none_of X G z_range, PySem.W.mg_none_of X G z_sum, PySem.W.mg_none_of X G z_zip, ⟨_, PySem.W.mg_of X G a_NOT_PUT, tk_NOT_PUT, rfl⟩, ⟨_, PySem.W.mg_of X G a_FAULT_NOT_PUT, tk_FAULT_NOT_PUT, rfl⟩, ⟨_, PySem.W.mg_of X G a_FAULT_COLLIDE, tk_FAULT_COLLIDE, rfl⟩, ⟨_, PySem.W.mg_of X G a_FAULT_DEMAND, tk_FAULT_DEMAND, rfl⟩, ⟨_, PySem.W.mg_of X G a_LEAD_SHIFT, tk_LEAD_SHIFT, rfl⟩, ⟨_, PySem.W.mg_of X G a_OUT_OF_RANGE, tk_OUT_OF_RANGE, rfl⟩, ⟨_, PySem.W.mg_of X G a_NO_MESSAGE, tk_NO_MESSAGE, rfl⟩, ⟨_, PySem.W.mg_of X G a_NO_FIT, tk_NO_FIT, rfl⟩, ⟨_, PySem.W.mg_of X G a_NONE_THERE, tk_NONE_THERE, rfl⟩, ⟨_, PySem.W.mg_of X G a_NOTHING_PUT, tk_NOTHING_PUT, rfl⟩, ⟨_, PySem.W.mg_of X G a_FULL, tk_FULL, rfl⟩, ⟨_, PySem.W.mg_of X G a_UNLIKE_PERIODS, tk_UNLIKE_PERIODS, rfl⟩, ⟨_, PySem.W.mg_of X G a_SPENT, tk_SPENT, rfl⟩, ⟨_, PySem.W.mg_of X G a_NOT_GOOD, tk_NOT_GOOD, rfl⟩, ⟨_, PySem.W.mg_of X G a_TOO_LONG, tk_TOO_LONG, rfl⟩, ⟨_, PySem.W.mg_of X G a_MOST_MESSAGES, tk_MOST_MESSAGES, rfl⟩, ⟨_, PySem.W.mg_of X G a_MOST_DEMANDS, tk_MOST_DEMANDS, rfl⟩, ⟨_, PySem.W.mg_of X G a_LONGEST_ROUND, tk_LONGEST_ROUND, rfl⟩, ⟨_, PySem.W.mg_of X G a_MESSAGE_RANGES, rfl⟩, r_MESSAGE_RANGES, ⟨_, PySem.W.mg_of X G a_KIND_AND_GAP_RANGES, rfl⟩, r_KIND_AND_GAP_RANGES, ⟨_, PySem.W.mg_of X G a_BEGINNING_RANGES, rfl⟩, r_BEGINNING_RANGES, ⟨_, PySem.W.mg_of X G a_BUDGET_RANGES, rfl⟩, r_BUDGET_RANGES, ⟨_, PySem.W.mg_of X G a_BUS_RANGES, rfl⟩, r_BUS_RANGES, ⟨_, PySem.W.mg_of X G a_BUS_AND_TIME_RANGES, rfl⟩, r_BUS_AND_TIME_RANGES, ⟨_, PySem.W.mg_of X G a_HANDLERS, rfl⟩, r_HANDLERS, ⟨_, PySem.W.mg_of X G a_ARGUMENTS, rfl⟩, r_ARGUMENTS, cl_Message, n_Message_period, n_Message_length, n_Message_earliest, n_Message_latest, n_Message_buses, cl_Demand, n_Demand_kind, n_Demand_first, n_Demand_second, n_Demand_gap, cl_Walk, n_Walk_messages, n_Walk_leads, n_Walk_size, n_Walk_budget, n_Walk_chosen, n_Walk_looked, n_Walk_rooms, n_Walk_tables, n_Walk_ended, cl_Desk, n_Desk_messages, n_Desk_demands, n_Desk_table, n_Desk_kept⟩
  have e := hfa.symm.trans (PySem.W.mg_of X G a_answers)
  cases e
  refine ⟨fd_answers, fun s us hu => ?_, fun base kb nb => ?_⟩
  · obtain ⟨oc, od, kV, doc, pm, an, cdv, ct, osl, rfl, lk, hcd⟩ := F_answers.ex
    exact match us, hu with | [_], _ => .of_eq rfl
  have C_Message : MkX P w K mg base 1 "Message" A.cMessage ["self", "period", "length", "earliest", "latest", "buses"] (sp_Message_init K A) := ⟨_, _, (ok_Message_init F_Message_init T), mk_Message, PySem.W.mg_of X G aC_Message, F_Message_init.binds fun _ _ _ _ _ _ => ar6 fun _ _ _ _ _ _ => rfl⟩
  have C_Demand : MkX P w K mg base 1 "Demand" A.cDemand ["self", "kind", "first", "second", "gap"] (sp_Demand_init K A) := ⟨_, _, (ok_Demand_init F_Demand_init T), mk_Demand, PySem.W.mg_of X G aC_Demand, F_Demand_init.binds fun _ _ _ _ _ _ => ar5 fun _ _ _ _ _ => rfl⟩
  have C_common_divisor : CalX P w K mg base 1 "common_divisor" ["one", "other"] (sp_common_divisor K A) := ⟨_, _, (ok_common_divisor F_common_divisor T), PySem.W.mg_of X G a_common_divisor, F_common_divisor.kp, F_common_divisor.binds fun _ _ _ _ _ _ => ar2 fun _ _ => rfl⟩
  have C_demands_between : CalX P w K mg base 1 "demands_between" ["demands", "one", "other"] (sp_demands_between K A) := ⟨_, _, (ok_demands_between F_demands_between T), PySem.W.mg_of X G a_demands_between, F_demands_between.kp, F_demands_between.binds fun _ _ _ _ _ _ => ar3 fun _ _ _ => rfl⟩
  have C_both_put : CalX P w K mg base 1 "both_put" ["table", "one", "other"] (sp_both_put K A) := ⟨_, _, (ok_both_put F_both_put T), PySem.W.mg_of X G a_both_put, F_both_put.kp, F_both_put.binds fun _ _ _ _ _ _ => ar3 fun _ _ _ => rfl⟩
  have C_missing_messages : CalX P w K mg base 1 "missing_messages" ["table"] (sp_missing_messages K A) := ⟨_, _, (ok_missing_messages F_missing_messages T), PySem.W.mg_of X G a_missing_messages, F_missing_messages.kp, F_missing_messages.binds fun _ _ _ _ _ _ => ar1 fun _ => rfl⟩
  have C_moving_messages : CalX P w K mg base 1 "moving_messages" ["start", "goal"] (sp_moving_messages K A) := ⟨_, _, (ok_moving_messages F_moving_messages T), PySem.W.mg_of X G a_moving_messages, F_moving_messages.kp, F_moving_messages.binds fun _ _ _ _ _ _ => ar2 fun _ _ => rfl⟩
  have C_first_unbarred : CalX P w K mg base 1 "first_unbarred" ["waiting", "barring"] (sp_first_unbarred K A) := ⟨_, _, (ok_first_unbarred F_first_unbarred T), PySem.W.mg_of X G a_first_unbarred, F_first_unbarred.kp, F_first_unbarred.binds fun _ _ _ _ _ _ => ar2 fun _ _ => rfl⟩
  have C_goes_on : CalX P w K mg base 1 "goes_on" ["message", "bus"] (sp_goes_on K A) := ⟨_, _, (ok_goes_on F_goes_on T), PySem.W.mg_of X G a_goes_on, F_goes_on.kp, F_goes_on.binds fun _ _ _ _ _ _ => ar2 fun _ _ => rfl⟩
  have C_longest_free_run : CalX P w K mg base 1 "longest_free_run" ["taken"] (sp_longest_free_run K A) := ⟨_, _, (ok_longest_free_run F_longest_free_run T), PySem.W.mg_of X G a_longest_free_run, F_longest_free_run.kp, F_longest_free_run.binds fun _ _ _ _ _ _ => ar1 fun _ => rfl⟩
  have C_is_full : MtX P w K mg base 1 A.cWalk "is_full" ["self"] (sp_Walk_is_full K A) := ⟨_, _, (ok_Walk_is_full F_Walk_is_full T), me_Walk_is_full, F_Walk_is_full.binds fun _ _ _ _ _ _ => ar1 fun _ => rfl⟩
  have C_go_back : MtX P w K mg base 1 A.cWalk "go_back" ["self"] (sp_Walk_go_back K A) := ⟨_, _, (ok_Walk_go_back F_Walk_go_back T), me_Walk_go_back, F_Walk_go_back.binds fun _ _ _ _ _ _ => ar1 fun _ => rfl⟩
  have C_Desk : MkX P w K mg base 1 "Desk" A.cDesk ["self"] (sp_Desk_init K A) := ⟨_, _, (ok_Desk_init F_Desk_init T), mk_Desk, PySem.W.mg_of X G aC_Desk, F_Desk_init.binds fun _ _ _ _ _ _ => ar1 fun _ => rfl⟩
  have C_in_ranges : CalX P w K mg base 1 "in_ranges" ["numbers", "ranges"] (sp_in_ranges K A) := ⟨_, _, (ok_in_ranges F_in_ranges T), PySem.W.mg_of X G a_in_ranges, F_in_ranges.kp, F_in_ranges.binds fun _ _ _ _ _ _ => ar2 fun _ _ => rfl⟩
  have C_has_message : CalX P w K mg base 1 "has_message" ["desk", "number"] (sp_has_message K A) := ⟨_, _, (ok_has_message F_has_message T), PySem.W.mg_of X G a_has_message, F_has_message.kp, F_has_message.binds fun _ _ _ _ _ _ => ar2 fun _ _ => rfl⟩
  have C_as_row : CalX P w K mg base 1 "as_row" ["numbers"] (sp_as_row K A) := ⟨_, _, (ok_as_row F_as_row T), PySem.W.mg_of X G a_as_row, F_as_row.kp, F_as_row.binds fun _ _ _ _ _ _ => ar1 fun _ => rfl⟩
  have d_answer_keep : HdX P w K mg base 7 _ ["desk", "numbers"] (sp_answer_keep K A) := ⟨_, (ok_answer_keep F_answer_keep T).mono (by decide), F_answer_keep.kp, F_answer_keep.binds fun _ _ _ _ _ _ => ar2 fun _ _ => rfl⟩
  have C_keep_apart : CalX P w K mg base 2 "keep_apart" ["first", "second", "lead", "gap"] (sp_keep_apart K A) := ⟨_, _, (ok_keep_apart F_keep_apart T C_common_divisor), PySem.W.mg_of X G a_keep_apart, F_keep_apart.kp, F_keep_apart.binds fun _ _ _ _ _ _ => ar4 fun _ _ _ _ => rfl⟩
  have C_put_on_bus : CalX P w K mg base 2 "put_on_bus" ["messages", "table", "bus"] (sp_put_on_bus K A) := ⟨_, _, (ok_put_on_bus F_put_on_bus T C_goes_on), PySem.W.mg_of X G a_put_on_bus, F_put_on_bus.kp, F_put_on_bus.binds fun _ _ _ _ _ _ => ar3 fun _ _ _ => rfl⟩
  have C_round_length : CalX P w K mg base 2 "round_length" ["messages"] (sp_round_length K A) := ⟨_, _, (ok_round_length F_round_length T C_common_divisor), PySem.W.mg_of X G a_round_length, F_round_length.kp, F_round_length.binds fun _ _ _ _ _ _ => ar1 fun _ => rfl⟩
  have C_longest_wait : CalX P w K mg base 2 "longest_wait" ["ending", "coming", "lead"] (sp_longest_wait K A) := ⟨_, _, (ok_longest_wait F_longest_wait T C_common_divisor), PySem.W.mg_of X G a_longest_wait, F_longest_wait.kp, F_longest_wait.binds fun _ _ _ _ _ _ => ar3 fun _ _ _ => rfl⟩
  have C_enter_message : MtX P w K mg base 2 A.cWalk "enter_message" ["self"] (sp_Walk_enter_message K A) := ⟨_, _, (ok_Walk_enter_message F_Walk_enter_message T C_is_full), me_Walk_enter_message, F_Walk_enter_message.binds fun _ _ _ _ _ _ => ar1 fun _ => rfl⟩
  have d_answer_put : HdX P w K mg base 7 _ ["desk", "numbers"] (sp_answer_put K A) := ⟨_, (ok_answer_put F_answer_put T C_in_ranges C_has_message).mono (by decide), F_answer_put.kp, F_answer_put.binds fun _ _ _ _ _ _ => ar2 fun _ _ => rfl⟩
  have d_answer_unput : HdX P w K mg base 7 _ ["desk", "numbers"] (sp_answer_unput K A) := ⟨_, (ok_answer_unput F_answer_unput T C_has_message).mono (by decide), F_answer_unput.kp, F_answer_unput.binds fun _ _ _ _ _ _ => ar2 fun _ _ => rfl⟩
  have d_answer_table : HdX P w K mg base 7 _ ["desk", "numbers"] (sp_answer_table K A) := ⟨_, (ok_answer_table F_answer_table T C_as_row).mono (by decide), F_answer_table.kp, F_answer_table.binds fun _ _ _ _ _ _ => ar2 fun _ _ => rfl⟩
  have d_answer_state : HdX P w K mg base 7 _ ["desk", "numbers"] (sp_answer_state K A) := ⟨_, (ok_answer_state F_answer_state T C_as_row).mono (by decide), F_answer_state.kp, F_answer_state.binds fun _ _ _ _ _ _ => ar2 fun _ _ => rfl⟩
  have C_collide : CalX P w K mg base 3 "collide" ["first", "second", "lead"] (sp_collide K A) := ⟨_, _, (ok_collide F_collide T C_keep_apart), PySem.W.mg_of X G a_collide, F_collide.kp, F_collide.binds fun _ _ _ _ _ _ => ar3 fun _ _ _ => rfl⟩
  have C_is_met : CalX P w K mg base 3 "is_met" ["demand", "messages", "lead"] (sp_is_met K A) := ⟨_, _, (ok_is_met F_is_met T C_keep_apart), PySem.W.mg_of X G a_is_met, F_is_met.kp, F_is_met.binds fun _ _ _ _ _ _ => ar3 fun _ _ _ => rfl⟩
  have C_message_at : CalX P w K mg base 3 "message_at" ["messages", "table", "bus", "time"] (sp_message_at K A) := ⟨_, _, (ok_message_at F_message_at T C_put_on_bus), PySem.W.mg_of X G a_message_at, F_message_at.kp, F_message_at.binds fun _ _ _ _ _ _ => ar4 fun _ _ _ _ => rfl⟩
  have C_next_message : CalX P w K mg base 3 "next_message" ["messages", "table", "bus", "time"] (sp_next_message K A) := ⟨_, _, (ok_next_message F_next_message T C_put_on_bus), PySem.W.mg_of X G a_next_message, F_next_message.kp, F_next_message.binds fun _ _ _ _ _ _ => ar4 fun _ _ _ _ => rfl⟩
  have C_bus_load : CalX P w K mg base 3 "bus_load" ["messages", "bus"] (sp_bus_load K A) := ⟨_, _, (ok_bus_load F_bus_load T C_round_length C_common_divisor C_goes_on), PySem.W.mg_of X G a_bus_load, F_bus_load.kp, F_bus_load.binds fun _ _ _ _ _ _ => ar2 fun _ _ => rfl⟩
  have C_taken_slots : CalX P w K mg base 3 "taken_slots" ["messages", "table", "bus"] (sp_taken_slots K A) := ⟨_, _, (ok_taken_slots F_taken_slots T C_round_length C_put_on_bus), PySem.W.mg_of X G a_taken_slots, F_taken_slots.kp, F_taken_slots.binds fun _ _ _ _ _ _ => ar3 fun _ _ _ => rfl⟩
  have C_Walk : MkX P w K mg base 3 "Walk" A.cWalk ["self", "messages", "leads", "size", "budget"] (sp_Walk_init K A) := ⟨_, _, (ok_Walk_init F_Walk_init T C_enter_message), mk_Walk, PySem.W.mg_of X G aC_Walk, F_Walk_init.binds fun _ _ _ _ _ _ => ar5 fun _ _ _ _ _ => rfl⟩
  have C_take_step : MtX P w K mg base 3 A.cWalk "take_step" ["self"] (sp_Walk_take_step K A) := ⟨_, _, (ok_Walk_take_step F_Walk_take_step T C_go_back C_enter_message), me_Walk_take_step, F_Walk_take_step.binds fun _ _ _ _ _ _ => ar1 fun _ => rfl⟩
  have d_answer_message : HdX P w K mg base 7 _ ["desk", "numbers"] (sp_answer_message K A) := ⟨_, (ok_answer_message F_answer_message T C_Message C_in_ranges).mono (by decide), F_answer_message.kp, F_answer_message.binds fun _ _ _ _ _ _ => ar2 fun _ _ => rfl⟩
  have d_answer_demand : HdX P w K mg base 7 _ ["desk", "numbers"] (sp_answer_demand K A) := ⟨_, (ok_answer_demand F_answer_demand T C_Demand C_in_ranges C_has_message).mono (by decide), F_answer_demand.kp, F_answer_demand.binds fun _ _ _ _ _ _ => ar2 fun _ _ => rfl⟩
  have d_answer_wait : HdX P w K mg base 7 _ ["desk", "numbers"] (sp_answer_wait K A) := ⟨_, (ok_answer_wait F_answer_wait T C_longest_wait C_has_message).mono (by decide), F_answer_wait.kp, F_answer_wait.binds fun _ _ _ _ _ _ => ar2 fun _ _ => rfl⟩
  have C_lead_fits : CalX P w K mg base 4 "lead_fits" ["messages", "between", "one", "other", "lead"] (sp_lead_fits K A) := ⟨_, _, (ok_lead_fits F_lead_fits T C_collide C_is_met), PySem.W.mg_of X G a_lead_fits, F_lead_fits.kp, F_lead_fits.binds fun _ _ _ _ _ _ => ar5 fun _ _ _ _ _ => rfl⟩
  have C_colliding_pairs : CalX P w K mg base 4 "colliding_pairs" ["messages", "table"] (sp_colliding_pairs K A) := ⟨_, _, (ok_colliding_pairs F_colliding_pairs T C_both_put C_collide), PySem.W.mg_of X G a_colliding_pairs, F_colliding_pairs.kp, F_colliding_pairs.binds fun _ _ _ _ _ _ => ar2 fun _ _ => rfl⟩
  have C_unmet_demands : CalX P w K mg base 4 "unmet_demands" ["messages", "demands", "table"] (sp_unmet_demands K A) := ⟨_, _, (ok_unmet_demands F_unmet_demands T C_both_put C_is_met), PySem.W.mg_of X G a_unmet_demands, F_unmet_demands.kp, F_unmet_demands.binds fun _ _ _ _ _ _ => ar3 fun _ _ _ => rfl⟩
  have d_answer_at : HdX P w K mg base 7 _ ["desk", "numbers"] (sp_answer_at K A) := ⟨_, (ok_answer_at F_answer_at T C_message_at C_in_ranges).mono (by decide), F_answer_at.kp, F_answer_at.binds fun _ _ _ _ _ _ => ar2 fun _ _ => rfl⟩
  have d_answer_next : HdX P w K mg base 7 _ ["desk", "numbers"] (sp_answer_next K A) := ⟨_, (ok_answer_next F_answer_next T C_next_message C_in_ranges).mono (by decide), F_answer_next.kp, F_answer_next.binds fun _ _ _ _ _ _ => ar2 fun _ _ => rfl⟩
  have d_answer_load : HdX P w K mg base 7 _ ["desk", "numbers"] (sp_answer_load K A) := ⟨_, (ok_answer_load F_answer_load T C_bus_load C_in_ranges).mono (by decide), F_answer_load.kp, F_answer_load.binds fun _ _ _ _ _ _ => ar2 fun _ _ => rfl⟩
  have d_answer_free : HdX P w K mg base 7 _ ["desk", "numbers"] (sp_answer_free K A) := ⟨_, (ok_answer_free F_answer_free T C_taken_slots C_in_ranges C_round_length C_longest_free_run).mono (by decide), F_answer_free.kp, F_answer_free.binds fun _ _ _ _ _ _ => ar2 fun _ _ => rfl⟩
  have C_table_faults : CalX P w K mg base 5 "table_faults" ["messages", "demands", "table"] (sp_table_faults K A) := ⟨_, _, (ok_table_faults F_table_faults T C_unmet_demands C_missing_messages C_colliding_pairs), PySem.W.mg_of X G a_table_faults, F_table_faults.kp, F_table_faults.binds fun _ _ _ _ _ _ => ar3 fun _ _ _ => rfl⟩
  have C_room_of : CalX P w K mg base 5 "room_of" ["messages", "demands", "table", "number"] (sp_room_of K A) := ⟨_, _, (ok_room_of F_room_of T C_demands_between C_lead_fits), PySem.W.mg_of X G a_room_of, F_room_of.kp, F_room_of.binds fun _ _ _ _ _ _ => ar4 fun _ _ _ _ => rfl⟩
  have C_barring_messages : CalX P w K mg base 5 "barring_messages" ["messages", "demands", "start", "goal", "number"] (sp_barring_messages K A) := ⟨_, _, (ok_barring_messages F_barring_messages T C_demands_between C_lead_fits), PySem.W.mg_of X G a_barring_messages, F_barring_messages.kp, F_barring_messages.binds fun _ _ _ _ _ _ => ar5 fun _ _ _ _ _ => rfl⟩
  have C_pair_leads : CalX P w K mg base 5 "pair_leads" ["messages", "demands", "early", "late"] (sp_pair_leads K A) := ⟨_, _, (ok_pair_leads F_pair_leads T C_demands_between C_lead_fits), PySem.W.mg_of X G a_pair_leads, F_pair_leads.kp, F_pair_leads.binds fun _ _ _ _ _ _ => ar4 fun _ _ _ _ => rfl⟩
  have C_search_table : CalX P w K mg base 5 "search_table" ["messages", "leads", "size", "budget"] (sp_search_table K A) := ⟨_, _, (ok_search_table F_search_table T C_Walk C_take_step C_is_full), PySem.W.mg_of X G a_search_table, F_search_table.kp, F_search_table.binds fun _ _ _ _ _ _ => ar4 fun _ _ _ _ => rfl⟩
  have C_count_tables : CalX P w K mg base 5 "count_tables" ["messages", "leads", "size", "budget"] (sp_count_tables K A) := ⟨_, _, (ok_count_tables F_count_tables T C_Walk C_take_step), PySem.W.mg_of X G a_count_tables, F_count_tables.kp, F_count_tables.binds fun _ _ _ _ _ _ => ar4 fun _ _ _ _ => rfl⟩
  have C_move_order : CalX P w K mg base 6 "move_order" ["messages", "demands", "start", "goal"] (sp_move_order K A) := ⟨_, _, (ok_move_order F_move_order T C_moving_messages C_barring_messages C_first_unbarred), PySem.W.mg_of X G a_move_order, F_move_order.kp, F_move_order.binds fun _ _ _ _ _ _ => ar4 fun _ _ _ _ => rfl⟩
  have C_fitting_leads : CalX P w K mg base 6 "fitting_leads" ["messages", "demands"] (sp_fitting_leads K A) := ⟨_, _, (ok_fitting_leads F_fitting_leads T C_pair_leads), PySem.W.mg_of X G a_fitting_leads, F_fitting_leads.kp, F_fitting_leads.binds fun _ _ _ _ _ _ => ar2 fun _ _ => rfl⟩
  have C_is_good : CalX P w K mg base 6 "is_good" ["desk", "table"] (sp_is_good K A) := ⟨_, _, (ok_is_good F_is_good T C_table_faults), PySem.W.mg_of X G a_is_good, F_is_good.kp, F_is_good.binds fun _ _ _ _ _ _ => ar2 fun _ _ => rfl⟩
  have d_answer_check : HdX P w K mg base 7 _ ["desk", "numbers"] (sp_answer_check K A) := ⟨_, (ok_answer_check F_answer_check T C_table_faults).mono (by decide), F_answer_check.kp, F_answer_check.binds fun _ _ _ _ _ _ => ar2 fun _ _ => rfl⟩
  have d_answer_room : HdX P w K mg base 7 _ ["desk", "numbers"] (sp_answer_room K A) := ⟨_, (ok_answer_room F_answer_room T C_as_row C_has_message C_room_of).mono (by decide), F_answer_room.kp, F_answer_room.binds fun _ _ _ _ _ _ => ar2 fun _ _ => rfl⟩
  have d_answer_search : HdX P w K mg base 7 _ ["desk", "numbers"] (sp_answer_search K A) := ⟨_, (ok_answer_search F_answer_search T C_fitting_leads C_search_table C_is_full C_in_ranges C_as_row).mono (by decide), F_answer_search.kp, F_answer_search.binds fun _ _ _ _ _ _ => ar2 fun _ _ => rfl⟩
  have d_answer_count : HdX P w K mg base 7 _ ["desk", "numbers"] (sp_answer_count K A) := ⟨_, (ok_answer_count F_answer_count T C_fitting_leads C_count_tables C_in_ranges).mono (by decide), F_answer_count.kp, F_answer_count.binds fun _ _ _ _ _ _ => ar2 fun _ _ => rfl⟩
  have d_answer_blame : HdX P w K mg base 7 _ ["desk", "numbers"] (sp_answer_blame K A) := ⟨_, (ok_answer_blame F_answer_blame T C_fitting_leads C_in_ranges C_search_table C_is_full).mono (by decide), F_answer_blame.kp, F_answer_blame.binds fun _ _ _ _ _ _ => ar2 fun _ _ => rfl⟩
  have d_answer_steps : HdX P w K mg base 7 _ ["desk", "numbers"] (sp_answer_steps K A) := ⟨_, (ok_answer_steps F_answer_steps T C_move_order C_as_row C_is_good).mono (by decide), F_answer_steps.kp, F_answer_steps.binds fun _ _ _ _ _ _ => ar2 fun _ _ => rfl⟩
  have C_answer_calls : CalX P w K mg base 8 "answer_calls" ["desk", "calls"] (sp_answer_calls K A) := ⟨_, _, (ok_answer_calls F_answer_calls T d_answer_message d_answer_demand d_answer_put d_answer_unput d_answer_check d_answer_search d_answer_count d_answer_blame d_answer_keep d_answer_steps d_answer_room d_answer_at d_answer_next d_answer_load d_answer_free d_answer_wait d_answer_table d_answer_state), PySem.W.mg_of X G a_answer_calls, F_answer_calls.kp, F_answer_calls.binds fun _ _ _ _ _ _ => ar2 fun _ _ => rfl⟩
  exact ok_answers F_answers T C_answer_calls C_Desk
end Sr
set_option Elab.async false
set_option linter.all false
set_option maxRecDepth 100000
def PySem.W.Fast.tw11197607850920148154 : Nat := 0
def PySem.W.Fast.tw6476525412903460584 : Nat := 0
def PySem.W.Fast.tw12942629461936315770 : Nat := 0
def PySem.W.Fast.tw6240510101246918736 : Nat := 0
def PySem.W.Fast.tw925855594370419466 : Nat := 0
def PySem.W.Fast.tw10639220856129455538 : Nat := 0
def PySem.W.Fast.tw9007281018292419133 : Nat := 0
def PySem.W.Fast.tw6376030870337082053 : Nat := 0
def PySem.W.Fast.tw17081369918541665307 : Nat := 0
def PySem.W.Fast.tw17760423064335919904 : Nat := 0
def PySem.W.Fast.tw17840456273292267755 : Nat := 0
def PySem.W.Fast.tw4056395932752770295 : Nat := 0
def PySem.W.Fast.tw2579891426392623258 : Nat := 0
def PySem.W.Fast.tw14737898134012532289 : Nat := 0
def PySem.W.Fast.tw17097265926936659709 : Nat := 0
def PySem.W.Fast.tw14976405931701411865 : Nat := 0
def PySem.W.Fast.tw6663027989838338025 : Nat := 0
def PySem.W.Fast.tw882866501734805925 : Nat := 0
def PySem.W.Fast.tw12251067711280278340 : Nat := 0
def PySem.W.Fast.tw9797902574571615971 : Nat := 0
def PySem.W.Fast.tw13948312145436049487 : Nat := 0
def PySem.W.Fast.tw7184354441328177633 : Nat := 0
def PySem.W.Fast.tw17966877073098535496 : Nat := 0
def PySem.W.Fast.tw14648311190289294568 : Nat := 0
def PySem.W.Fast.tw4978231158796100599 : Nat := 0
def PySem.W.Fast.tw7464904048326866696 : Nat := 0
def PySem.W.Fast.tw3843929567753783092 : Nat := 0
def PySem.W.Fast.tw11915417959707945775 : Nat := 0
def PySem.W.Fast.tw13601479315078299825 : Nat := 0
def PySem.W.Fast.tw6980629281116434971 : Nat := 0
def PySem.W.Fast.tw225090642383563993 : Nat := 0
def PySem.W.Fast.tw13501704558797037939 : Nat := 0
def PySem.W.Fast.tw6550693106806813252 : Nat := 0
def PySem.W.Fast.tw10449289718148261097 : Nat := 0
def PySem.W.Fast.tw9026841947903362352 : Nat := 0
def PySem.W.Fast.tw7532827327118326642 : Nat := 0
def PySem.W.Fast.tw6408052217266415937 : Nat := 0
open PySem PySem.W PyProof.Rows
set_option maxRecDepth 100000 in
set_option maxHeartbeats 0 in
theorem PySem.Challenge.cw_slotround_s01_answers_holds : PySem.Challenge.rw_slotround_s01_answers.Holds := by
  w_on; k_headS; (case hw => exact ⟨[.list [.int 4]], by decide +kernel, by decide +kernel⟩)
  k_fillS
  refine L2.walk_specK (r := PySem.Challenge.rw_slotround_s01_answers) (k := 9) (CX := L2.CX0) (ps := ["calls"]) (sp := Sr.sp_top) (by decide +kernel) rfl rfl ⟨rfl, by decide, by decide⟩ (fun w h Y => PySem.W.kIn_of Y) ?F ?S (fun _ _ _ _ z => z)
  case F =>
    intro w mg fa h Y KX G hmg
    have z_any : PySem.W.nsIn (L2.KOf KX) mainGlobals "any" = some none := by
      dsimp only [L2.KOf]
      k_is
    have z_enumerate : PySem.W.nsIn (L2.KOf KX) mainGlobals "enumerate" = some none := by
      dsimp only [L2.KOf]
      k_is
    have z_len : PySem.W.nsIn (L2.KOf KX) mainGlobals "len" = some none := by
      dsimp only [L2.KOf]
      k_is
    have z_list : PySem.W.nsIn (L2.KOf KX) mainGlobals "list" = some none := by
      dsimp only [L2.KOf]
      k_is
    have z_max : PySem.W.nsIn (L2.KOf KX) mainGlobals "max" = some none := by
      dsimp only [L2.KOf]
      k_is
    have z_min : PySem.W.nsIn (L2.KOf KX) mainGlobals "min" = some none := by
      dsimp only [L2.KOf]
      k_is
    have z_range : PySem.W.nsIn (L2.KOf KX) mainGlobals "range" = some none := by
      dsimp only [L2.KOf]
      k_is
    have z_sum : PySem.W.nsIn (L2.KOf KX) mainGlobals "sum" = some none := by
      dsimp only [L2.KOf]
      k_is
    have z_zip : PySem.W.nsIn (L2.KOf KX) mainGlobals "zip" = some none := by
      dsimp only [L2.KOf]
      k_is
    have p_NOT_PUT : Sr.Pk_int (L2.KOf KX) "NOT_PUT" (-1) := by
      dsimp only [L2.KOf]
      refine' Sr.pk_int ?a ?e
      (case a => k_is); (case e => rfl)
    have p_FAULT_NOT_PUT : Sr.Pk_int (L2.KOf KX) "FAULT_NOT_PUT" 1 := by
      dsimp only [L2.KOf]
      refine' Sr.pk_int ?a ?e
      (case a => k_is); (case e => rfl)
    have p_FAULT_COLLIDE : Sr.Pk_int (L2.KOf KX) "FAULT_COLLIDE" 2 := by
      dsimp only [L2.KOf]
      refine' Sr.pk_int ?a ?e
      (case a => k_is); (case e => rfl)
    have p_FAULT_DEMAND : Sr.Pk_int (L2.KOf KX) "FAULT_DEMAND" 3 := by
      dsimp only [L2.KOf]
      refine' Sr.pk_int ?a ?e
      (case a => k_is); (case e => rfl)
    have p_LEAD_SHIFT : Sr.Pk_int (L2.KOf KX) "LEAD_SHIFT" 63 := by
      dsimp only [L2.KOf]
      refine' Sr.pk_int ?a ?e
      (case a => k_is); (case e => rfl)
    have p_OUT_OF_RANGE : Sr.Pk_int (L2.KOf KX) "OUT_OF_RANGE" (-1) := by
      dsimp only [L2.KOf]
      refine' Sr.pk_int ?a ?e
      (case a => k_is); (case e => rfl)
    have p_NO_MESSAGE : Sr.Pk_int (L2.KOf KX) "NO_MESSAGE" (-4) := by
      dsimp only [L2.KOf]
      refine' Sr.pk_int ?a ?e
      (case a => k_is); (case e => rfl)
    have p_NO_FIT : Sr.Pk_int (L2.KOf KX) "NO_FIT" (-5) := by
      dsimp only [L2.KOf]
      refine' Sr.pk_int ?a ?e
      (case a => k_is); (case e => rfl)
    have p_NONE_THERE : Sr.Pk_int (L2.KOf KX) "NONE_THERE" (-6) := by
      dsimp only [L2.KOf]
      refine' Sr.pk_int ?a ?e
      (case a => k_is); (case e => rfl)
    have p_NOTHING_PUT : Sr.Pk_int (L2.KOf KX) "NOTHING_PUT" (-7) := by
      dsimp only [L2.KOf]
      refine' Sr.pk_int ?a ?e
      (case a => k_is); (case e => rfl)
    have p_FULL : Sr.Pk_int (L2.KOf KX) "FULL" (-8) := by
      dsimp only [L2.KOf]
      refine' Sr.pk_int ?a ?e
      (case a => k_is); (case e => rfl)
    have p_UNLIKE_PERIODS : Sr.Pk_int (L2.KOf KX) "UNLIKE_PERIODS" (-9) := by
      dsimp only [L2.KOf]
      refine' Sr.pk_int ?a ?e
      (case a => k_is); (case e => rfl)
    have p_SPENT : Sr.Pk_int (L2.KOf KX) "SPENT" (-10) := by
      dsimp only [L2.KOf]
      refine' Sr.pk_int ?a ?e
      (case a => k_is); (case e => rfl)
    have p_NOT_GOOD : Sr.Pk_int (L2.KOf KX) "NOT_GOOD" (-11) := by
      dsimp only [L2.KOf]
      refine' Sr.pk_int ?a ?e
      (case a => k_is); (case e => rfl)
    have p_TOO_LONG : Sr.Pk_int (L2.KOf KX) "TOO_LONG" (-12) := by
      dsimp only [L2.KOf]
      refine' Sr.pk_int ?a ?e
      (case a => k_is); (case e => rfl)
    have p_MOST_MESSAGES : Sr.Pk_int (L2.KOf KX) "MOST_MESSAGES" 8 := by
      dsimp only [L2.KOf]
      refine' Sr.pk_int ?a ?e
      (case a => k_is); (case e => rfl)
    have p_MOST_DEMANDS : Sr.Pk_int (L2.KOf KX) "MOST_DEMANDS" 16 := by
      dsimp only [L2.KOf]
      refine' Sr.pk_int ?a ?e
      (case a => k_is); (case e => rfl)
    have p_LONGEST_ROUND : Sr.Pk_int (L2.KOf KX) "LONGEST_ROUND" 5000 := by
      dsimp only [L2.KOf]
      refine' Sr.pk_int ?a ?e
      (case a => k_is); (case e => rfl)
    have p_MESSAGE_RANGES : Sr.Pk_rng (L2.KOf KX) "MESSAGE_RANGES" [(1, 64), (1, 64), (0, 63), (0, 63), (1, 3)] := by
      dsimp only [L2.KOf]
      refine' Sr.pk_MESSAGE_RANGES ?a ?l ?l0 ?l1 ?l2 ?l3 ?l4 ?ey0 ?ez0 ?ey1 ?ez1 ?ey2 ?ez2 ?ey3 ?ez3 ?ey4 ?ez4
      case a | l | l0 | l1 | l2 | l3 | l4 => k_is
      case ey0 | ez0 | ey1 | ez1 | ey2 | ez2 | ey3 | ez3 | ey4 | ez4 => rfl
    have p_KIND_AND_GAP_RANGES : Sr.Pk_rng (L2.KOf KX) "KIND_AND_GAP_RANGES" [(0, 1), (0, 64)] := by
      dsimp only [L2.KOf]
      refine' Sr.pk_KIND_AND_GAP_RANGES ?a ?l ?l0 ?l1 ?ey0 ?ez0 ?ey1 ?ez1
      case a | l | l0 | l1 => k_is
      case ey0 | ez0 | ey1 | ez1 => rfl
    have p_BEGINNING_RANGES : Sr.Pk_rng (L2.KOf KX) "BEGINNING_RANGES" [(0, 63)] := by
      dsimp only [L2.KOf]
      refine' Sr.pk_BEGINNING_RANGES ?a ?l ?l0 ?ey0 ?ez0
      case a | l | l0 => k_is
      case ey0 | ez0 => rfl
    have p_BUDGET_RANGES : Sr.Pk_rng (L2.KOf KX) "BUDGET_RANGES" [(1, 20000)] := by
      dsimp only [L2.KOf]
      refine' Sr.pk_BUDGET_RANGES ?a ?l ?l0 ?ey0 ?ez0
      case a | l | l0 => k_is
      case ey0 | ez0 => rfl
    have p_BUS_RANGES : Sr.Pk_rng (L2.KOf KX) "BUS_RANGES" [(0, 1)] := by
      dsimp only [L2.KOf]
      refine' Sr.pk_BUS_RANGES ?a ?l ?l0 ?ey0 ?ez0
      case a | l | l0 => k_is
      case ey0 | ez0 => rfl
    have p_BUS_AND_TIME_RANGES : Sr.Pk_rng (L2.KOf KX) "BUS_AND_TIME_RANGES" [(0, 1), (0, 1000000000000000000)] := by
      dsimp only [L2.KOf]
      refine' Sr.pk_BUS_AND_TIME_RANGES ?a ?l ?l0 ?l1 ?ey0 ?ez0 ?ey1 ?ez1
      case a | l | l0 | l1 => k_is
      case ey0 | ez0 | ey1 | ez1 => rfl
    have p_HANDLERS : Sr.Pk_HANDLERS (L2.KOf KX) := by
      dsimp only [L2.KOf]
      refine' Sr.pk_HANDLERS ?a ?l ?a0 ?a1 ?a2 ?a3 ?a4 ?a5 ?a6 ?a7 ?a8 ?a9 ?a10 ?a11 ?a12 ?a13 ?a14 ?a15 ?a16 ?a17
      case a | l | a0 | a1 | a2 | a3 | a4 | a5 | a6 | a7 | a8 | a9 | a10 | a11 | a12 | a13 | a14 | a15 | a16 | a17 => k_is
    have p_ARGUMENTS : Sr.Pk_tup (L2.KOf KX) "ARGUMENTS" [.int 5, .int 4, .int 2, .int 1, .int 0, .int 1, .int 1, .int 1, .int 0, .int 0, .int 1, .int 2, .int 2, .int 1, .int 1, .int 2, .int 0, .int 0] := by
      dsimp only [L2.KOf]
      refine' Sr.pk_ARGUMENTS ?a ?l ?e0 ?e1 ?e2 ?e3 ?e4 ?e5 ?e6 ?e7 ?e8 ?e9 ?e10 ?e11 ?e12 ?e13 ?e14 ?e15 ?e16 ?e17
      case a | l => k_is
      case e0 | e1 | e2 | e3 | e4 | e5 | e6 | e7 | e8 | e9 | e10 | e11 | e12 | e13 | e14 | e15 | e16 | e17 => rfl
    have p_Message : Sr.Pk_Message (L2.KOf KX) := by
      dsimp only [L2.KOf]
      refine' Sr.pk_Message ?aC ?a0 ?i0 ?l0 ?c0 ?k0 ?pg ?hd ?po ?sa ?mk ?kc ?n_period ?n_length ?n_earliest ?n_latest ?n_buses
      case aC | a0 | i0 | l0 | c0 | k0 | pg | hd | po | sa | mk | kc | n_period | n_length | n_earliest | n_latest | n_buses => k_is
    have p_Demand : Sr.Pk_Demand (L2.KOf KX) := by
      dsimp only [L2.KOf]
      refine' Sr.pk_Demand ?aC ?a0 ?i0 ?l0 ?c0 ?k0 ?pg ?hd ?po ?sa ?mk ?kc ?n_kind ?n_first ?n_second ?n_gap
      case aC | a0 | i0 | l0 | c0 | k0 | pg | hd | po | sa | mk | kc | n_kind | n_first | n_second | n_gap => k_is
    have p_Walk : Sr.Pk_Walk (L2.KOf KX) := by
      dsimp only [L2.KOf]
      refine' Sr.pk_Walk ?aC ?a0 ?i0 ?l0 ?c0 ?k0 ?a1 ?i1 ?l1 ?c1 ?k1 ?a2 ?i2 ?l2 ?c2 ?k2 ?a3 ?i3 ?l3 ?c3 ?k3 ?a4 ?i4 ?l4 ?c4 ?k4 ?pg ?hd ?po ?sa ?mk ?kc ?n_messages ?n_leads ?n_size ?n_budget ?n_chosen ?n_looked ?n_rooms ?n_tables ?n_ended
      case aC | a0 | i0 | l0 | c0 | k0 | a1 | i1 | l1 | c1 | k1 | a2 | i2 | l2 | c2 | k2 | a3 | i3 | l3 | c3 | k3 | a4 | i4 | l4 | c4 | k4 | pg | hd | po | sa | mk | kc | n_messages | n_leads | n_size | n_budget | n_chosen | n_looked | n_rooms | n_tables | n_ended => k_is
    have p_Desk : Sr.Pk_Desk (L2.KOf KX) := by
      dsimp only [L2.KOf]
      refine' Sr.pk_Desk ?aC ?a0 ?i0 ?l0 ?c0 ?k0 ?pg ?hd ?po ?sa ?mk ?kc ?n_messages ?n_demands ?n_table ?n_kept
      case aC | a0 | i0 | l0 | c0 | k0 | pg | hd | po | sa | mk | kc | n_messages | n_demands | n_table | n_kept => k_is
    have p_common_divisor : Sr.Pk_fn (L2.KOf KX) "common_divisor" Sr.s_common_divisor := by
      dsimp only [L2.KOf]
      refine' Sr.pk_fn ?a ?l ?c ?k
      case a | l | c | k => k_is
    have p_keep_apart : Sr.Pk_fn (L2.KOf KX) "keep_apart" Sr.s_keep_apart := by
      dsimp only [L2.KOf]
      refine' Sr.pk_fn ?a ?l ?c ?k
      case a | l | c | k => k_is
    have p_collide : Sr.Pk_fn (L2.KOf KX) "collide" Sr.s_collide := by
      dsimp only [L2.KOf]
      refine' Sr.pk_fn ?a ?l ?c ?k
      case a | l | c | k => k_is
    have p_is_met : Sr.Pk_fn (L2.KOf KX) "is_met" Sr.s_is_met := by
      dsimp only [L2.KOf]
      refine' Sr.pk_fn ?a ?l ?c ?k
      case a | l | c | k => k_is
    have p_demands_between : Sr.Pk_fn (L2.KOf KX) "demands_between" Sr.s_demands_between := by
      dsimp only [L2.KOf]
      refine' Sr.pk_fn ?a ?l ?c ?k
      case a | l | c | k => k_is
    have p_lead_fits : Sr.Pk_fn (L2.KOf KX) "lead_fits" Sr.s_lead_fits := by
      dsimp only [L2.KOf]
      refine' Sr.pk_fn ?a ?l ?c ?k
      case a | l | c | k => k_is
    have p_both_put : Sr.Pk_fn (L2.KOf KX) "both_put" Sr.s_both_put := by
      dsimp only [L2.KOf]
      refine' Sr.pk_fn ?a ?l ?c ?k
      case a | l | c | k => k_is
    have p_missing_messages : Sr.Pk_fn (L2.KOf KX) "missing_messages" Sr.s_missing_messages := by
      dsimp only [L2.KOf]
      refine' Sr.pk_fn ?a ?l ?c ?k
      case a | l | c | k => k_is
    have p_colliding_pairs : Sr.Pk_fn (L2.KOf KX) "colliding_pairs" Sr.s_colliding_pairs := by
      dsimp only [L2.KOf]
      refine' Sr.pk_fn ?a ?l ?c ?k
      case a | l | c | k => k_is
    have p_unmet_demands : Sr.Pk_fn (L2.KOf KX) "unmet_demands" Sr.s_unmet_demands := by
      dsimp only [L2.KOf]
      refine' Sr.pk_fn ?a ?l ?c ?k
      case a | l | c | k => k_is
    have p_table_faults : Sr.Pk_fn (L2.KOf KX) "table_faults" Sr.s_table_faults := by
      dsimp only [L2.KOf]
      refine' Sr.pk_fn ?a ?l ?c ?k
      case a | l | c | k => k_is
    have p_room_of : Sr.Pk_fn (L2.KOf KX) "room_of" Sr.s_room_of := by
      dsimp only [L2.KOf]
      refine' Sr.pk_fn ?a ?l ?c ?k
      case a | l | c | k => k_is
    have p_moving_messages : Sr.Pk_fn (L2.KOf KX) "moving_messages" Sr.s_moving_messages := by
      dsimp only [L2.KOf]
      refine' Sr.pk_fn ?a ?l ?c ?k
      case a | l | c | k => k_is
    have p_barring_messages : Sr.Pk_fn (L2.KOf KX) "barring_messages" Sr.s_barring_messages := by
      dsimp only [L2.KOf]
      refine' Sr.pk_fn ?a ?l ?c ?k
      case a | l | c | k => k_is
    have p_first_unbarred : Sr.Pk_fn (L2.KOf KX) "first_unbarred" Sr.s_first_unbarred := by
      dsimp only [L2.KOf]
      refine' Sr.pk_fn ?a ?l ?c ?k
      case a | l | c | k => k_is
    have p_move_order : Sr.Pk_fn (L2.KOf KX) "move_order" Sr.s_move_order := by
      dsimp only [L2.KOf]
      refine' Sr.pk_fn ?a ?l ?c ?k
      case a | l | c | k => k_is
    have p_goes_on : Sr.Pk_fn (L2.KOf KX) "goes_on" Sr.s_goes_on := by
      dsimp only [L2.KOf]
      refine' Sr.pk_fn ?a ?l ?c ?k
      case a | l | c | k => k_is
    have p_put_on_bus : Sr.Pk_fn (L2.KOf KX) "put_on_bus" Sr.s_put_on_bus := by
      dsimp only [L2.KOf]
      refine' Sr.pk_fn ?a ?l ?c ?k
      case a | l | c | k => k_is
    have p_message_at : Sr.Pk_fn (L2.KOf KX) "message_at" Sr.s_message_at := by
      dsimp only [L2.KOf]
      refine' Sr.pk_fn ?a ?l ?c ?k
      case a | l | c | k => k_is
    have p_next_message : Sr.Pk_fn (L2.KOf KX) "next_message" Sr.s_next_message := by
      dsimp only [L2.KOf]
      refine' Sr.pk_fn ?a ?l ?c ?k
      case a | l | c | k => k_is
    have p_round_length : Sr.Pk_fn (L2.KOf KX) "round_length" Sr.s_round_length := by
      dsimp only [L2.KOf]
      refine' Sr.pk_fn ?a ?l ?c ?k
      case a | l | c | k => k_is
    have p_bus_load : Sr.Pk_fn (L2.KOf KX) "bus_load" Sr.s_bus_load := by
      dsimp only [L2.KOf]
      refine' Sr.pk_fn ?a ?l ?c ?k
      case a | l | c | k => k_is
    have p_taken_slots : Sr.Pk_fn (L2.KOf KX) "taken_slots" Sr.s_taken_slots := by
      dsimp only [L2.KOf]
      refine' Sr.pk_fn ?a ?l ?c ?k
      case a | l | c | k => k_is
    have p_longest_free_run : Sr.Pk_fn (L2.KOf KX) "longest_free_run" Sr.s_longest_free_run := by
      dsimp only [L2.KOf]
      refine' Sr.pk_fn ?a ?l ?c ?k
      case a | l | c | k => k_is
    have p_longest_wait : Sr.Pk_fn (L2.KOf KX) "longest_wait" Sr.s_longest_wait := by
      dsimp only [L2.KOf]
      refine' Sr.pk_fn ?a ?l ?c ?k
      case a | l | c | k => k_is
    have p_pair_leads : Sr.Pk_fn (L2.KOf KX) "pair_leads" Sr.s_pair_leads := by
      dsimp only [L2.KOf]
      refine' Sr.pk_fn ?a ?l ?c ?k
      case a | l | c | k => k_is
    have p_fitting_leads : Sr.Pk_fn (L2.KOf KX) "fitting_leads" Sr.s_fitting_leads := by
      dsimp only [L2.KOf]
      refine' Sr.pk_fn ?a ?l ?c ?k
      case a | l | c | k => k_is
    have p_search_table : Sr.Pk_fn (L2.KOf KX) "search_table" Sr.s_search_table := by
      dsimp only [L2.KOf]
      refine' Sr.pk_fn ?a ?l ?c ?k
      case a | l | c | k => k_is
    have p_count_tables : Sr.Pk_fn (L2.KOf KX) "count_tables" Sr.s_count_tables := by
      dsimp only [L2.KOf]
      refine' Sr.pk_fn ?a ?l ?c ?k
      case a | l | c | k => k_is
    have p_in_ranges : Sr.Pk_fn (L2.KOf KX) "in_ranges" Sr.s_in_ranges := by
      dsimp only [L2.KOf]
      refine' Sr.pk_fn ?a ?l ?c ?k
      case a | l | c | k => k_is
    have p_has_message : Sr.Pk_fn (L2.KOf KX) "has_message" Sr.s_has_message := by
      dsimp only [L2.KOf]
      refine' Sr.pk_fn ?a ?l ?c ?k
      case a | l | c | k => k_is
    have p_is_good : Sr.Pk_fn (L2.KOf KX) "is_good" Sr.s_is_good := by
      dsimp only [L2.KOf]
      refine' Sr.pk_fn ?a ?l ?c ?k
      case a | l | c | k => k_is
    have p_as_row : Sr.Pk_fn (L2.KOf KX) "as_row" Sr.s_as_row := by
      dsimp only [L2.KOf]
      refine' Sr.pk_fn ?a ?l ?c ?k
      case a | l | c | k => k_is
    have p_answer_message : Sr.Pk_fn (L2.KOf KX) "answer_message" Sr.s_answer_message := by
      dsimp only [L2.KOf]
      refine' Sr.pk_fn ?a ?l ?c ?k
      case a | l | c | k => k_is
    have p_answer_demand : Sr.Pk_fn (L2.KOf KX) "answer_demand" Sr.s_answer_demand := by
      dsimp only [L2.KOf]
      refine' Sr.pk_fn ?a ?l ?c ?k
      case a | l | c | k => k_is
    have p_answer_put : Sr.Pk_fn (L2.KOf KX) "answer_put" Sr.s_answer_put := by
      dsimp only [L2.KOf]
      refine' Sr.pk_fn ?a ?l ?c ?k
      case a | l | c | k => k_is
    have p_answer_unput : Sr.Pk_fn (L2.KOf KX) "answer_unput" Sr.s_answer_unput := by
      dsimp only [L2.KOf]
      refine' Sr.pk_fn ?a ?l ?c ?k
      case a | l | c | k => k_is
    have p_answer_check : Sr.Pk_fn (L2.KOf KX) "answer_check" Sr.s_answer_check := by
      dsimp only [L2.KOf]
      refine' Sr.pk_fn ?a ?l ?c ?k
      case a | l | c | k => k_is
    have p_answer_search : Sr.Pk_fn (L2.KOf KX) "answer_search" Sr.s_answer_search := by
      dsimp only [L2.KOf]
      refine' Sr.pk_fn ?a ?l ?c ?k
      case a | l | c | k => k_is
    have p_answer_count : Sr.Pk_fn (L2.KOf KX) "answer_count" Sr.s_answer_count := by
      dsimp only [L2.KOf]
      refine' Sr.pk_fn ?a ?l ?c ?k
      case a | l | c | k => k_is
    have p_answer_blame : Sr.Pk_fn (L2.KOf KX) "answer_blame" Sr.s_answer_blame := by
      dsimp only [L2.KOf]
      refine' Sr.pk_fn ?a ?l ?c ?k
      case a | l | c | k => k_is
    have p_answer_keep : Sr.Pk_fn (L2.KOf KX) "answer_keep" Sr.s_answer_keep := by
      dsimp only [L2.KOf]
      refine' Sr.pk_fn ?a ?l ?c ?k
      case a | l | c | k => k_is
    have p_answer_steps : Sr.Pk_fn (L2.KOf KX) "answer_steps" Sr.s_answer_steps := by
      dsimp only [L2.KOf]
      refine' Sr.pk_fn ?a ?l ?c ?k
      case a | l | c | k => k_is
    have p_answer_room : Sr.Pk_fn (L2.KOf KX) "answer_room" Sr.s_answer_room := by
      dsimp only [L2.KOf]
      refine' Sr.pk_fn ?a ?l ?c ?k
      case a | l | c | k => k_is
    have p_answer_at : Sr.Pk_fn (L2.KOf KX) "answer_at" Sr.s_answer_at := by
      dsimp only [L2.KOf]
      refine' Sr.pk_fn ?a ?l ?c ?k
      case a | l | c | k => k_is
    have p_answer_next : Sr.Pk_fn (L2.KOf KX) "answer_next" Sr.s_answer_next := by
      dsimp only [L2.KOf]
      refine' Sr.pk_fn ?a ?l ?c ?k
      case a | l | c | k => k_is
    have p_answer_load : Sr.Pk_fn (L2.KOf KX) "answer_load" Sr.s_answer_load := by
      dsimp only [L2.KOf]
      refine' Sr.pk_fn ?a ?l ?c ?k
      case a | l | c | k => k_is
    have p_answer_free : Sr.Pk_fn (L2.KOf KX) "answer_free" Sr.s_answer_free := by
      dsimp only [L2.KOf]
      refine' Sr.pk_fn ?a ?l ?c ?k
      case a | l | c | k => k_is
    have p_answer_wait : Sr.Pk_fn (L2.KOf KX) "answer_wait" Sr.s_answer_wait := by
      dsimp only [L2.KOf]
      refine' Sr.pk_fn ?a ?l ?c ?k
      case a | l | c | k => k_is
    have p_answer_table : Sr.Pk_fn (L2.KOf KX) "answer_table" Sr.s_answer_table := by
      dsimp only [L2.KOf]
      refine' Sr.pk_fn ?a ?l ?c ?k
      case a | l | c | k => k_is
    have p_answer_state : Sr.Pk_fn (L2.KOf KX) "answer_state" Sr.s_answer_state := by
      dsimp only [L2.KOf]
      refine' Sr.pk_fn ?a ?l ?c ?k
      case a | l | c | k => k_is
    have p_answer_calls : Sr.Pk_fn (L2.KOf KX) "answer_calls" Sr.s_answer_calls := by
      dsimp only [L2.KOf]
      refine' Sr.pk_fn ?a ?l ?c ?k
      case a | l | c | k => k_is
    have p_answers : Sr.Pk_fn (L2.KOf KX) "answers" Sr.s_answers := by
      dsimp only [L2.KOf]
      refine' Sr.pk_fn ?a ?l ?c ?k
      case a | l | c | k => k_is
    exact Sr.all_mk KX G hmg z_any z_enumerate z_len z_list z_max z_min z_range z_sum z_zip p_NOT_PUT p_FAULT_NOT_PUT p_FAULT_COLLIDE p_FAULT_DEMAND p_LEAD_SHIFT p_OUT_OF_RANGE p_NO_MESSAGE p_NO_FIT p_NONE_THERE p_NOTHING_PUT p_FULL p_UNLIKE_PERIODS p_SPENT p_NOT_GOOD p_TOO_LONG p_MOST_MESSAGES p_MOST_DEMANDS p_LONGEST_ROUND p_MESSAGE_RANGES p_KIND_AND_GAP_RANGES p_BEGINNING_RANGES p_BUDGET_RANGES p_BUS_RANGES p_BUS_AND_TIME_RANGES p_HANDLERS p_ARGUMENTS p_Message p_Demand p_Walk p_Desk p_common_divisor p_keep_apart p_collide p_is_met p_demands_between p_lead_fits p_both_put p_missing_messages p_colliding_pairs p_unmet_demands p_table_faults p_room_of p_moving_messages p_barring_messages p_first_unbarred p_move_order p_goes_on p_put_on_bus p_message_at p_next_message p_round_length p_bus_load p_taken_slots p_longest_free_run p_longest_wait p_pair_leads p_fitting_leads p_search_table p_count_tables p_in_ranges p_has_message p_is_good p_as_row p_answer_message p_answer_demand p_answer_put p_answer_unput p_answer_check p_answer_search p_answer_count p_answer_blame p_answer_keep p_answer_steps p_answer_room p_answer_at p_answer_next p_answer_load p_answer_free p_answer_wait p_answer_table p_answer_state p_answer_calls p_answers
  case S =>
    intro K H xs a hO hwi hask hx
    cases hx with
    | cons h1 h2 =>
      cases h2
      cases h1 with
      | lst hs ha =>
        have e := L2.ints_dw a.1 _ ha
        subst e
        exact ⟨_, a.1, rfl, hs, hask, fun H' p hp => .lst (L2.SqL.of hp) (L2.dw_ints _)⟩
