import PyProof.Rows.All
import Wide.All
import OpenK.AllK
import Wide.FinOn
import Lean
import PyProof.EqAt
import PyProof.EqKinds
import PyProof.TupleCall
import PySem.Challenge.RW_weavehall_k18_nothing_is_kept
set_option Elab.async false
set_option linter.all false
set_option maxRecDepth 100000
namespace L2
open PySem PySem.Spec PyProof.Rows
abbrev Key := Sum Int Str
def keyIs : Key → Value → Bool
  | .inl k, v => Value.isInt k v
  | .inr x, v => Value.isStrOf x v
def keyH (w : World) : Key → Int
  | .inl k => hashInt k
  | .inr x => hashStr w x
theorem keyIs_shape : ∀ {k : Key} {v : Value}, keyIs k v = true → (∃ i t, k = Sum.inl i ∧ v = Value.int i t) ∨ (∃ x t, k = Sum.inr x ∧ v = Value.str x t)
  | .inl i, v, h => by
    obtain ⟨t, e⟩ := Value.isInt_shape (k := i) (v := v) h
    exact .inl ⟨i, t, rfl, e⟩
  | .inr x, v, h => by
    obtain ⟨t, e⟩ := Value.isStrOf_shape (x := x) (v := v) h
    exact .inr ⟨x, t, rfl, e⟩
theorem keyIs_int (i : Int) (t : Tok) : keyIs (.inl i) (.int i t) = true := by simp [keyIs, Value.isInt]
theorem keyIs_str (x : Str) (t : Tok) : keyIs (.inr x) (.str x t) = true := by simp [keyIs, Value.isStrOf]
theorem key_ll (a b : Int) : decide ((Sum.inl a : Key) = Sum.inl b) = (a == b) := by
  by_cases e : a = b
  · subst e; simp
  · have h : ¬ (Sum.inl a : Key) = Sum.inl b := fun q => e (Sum.inl.inj q)
    rw [decide_eq_false h]
    exact (beq_eq_false_iff_ne.mpr e).symm
theorem key_rr (a b : Str) : decide ((Sum.inr a : Key) = Sum.inr b) = decide (a = b) := by
  by_cases e : a = b
  · subst e; simp
  · have h : ¬ (Sum.inr a : Key) = Sum.inr b := fun q => e (Sum.inr.inj q)
    rw [decide_eq_false h, decide_eq_false e]
theorem key_lr (a : Int) (b : Str) : decide ((Sum.inl a : Key) = Sum.inr b) = false := decide_eq_false (fun q => nomatch q)
theorem key_rl (a : Str) (b : Int) : decide ((Sum.inr a : Key) = Sum.inl b) = false := decide_eq_false (fun q => nomatch q)
def mixKind (prog : Program) (w : World) : PySem.KeyKind prog w Key where
  is := keyIs
  hash := keyH w
  inj := fun v a b ha hb => by
    rcases keyIs_shape ha with ⟨i, t, rfl, rfl⟩ | ⟨x, t, rfl, rfl⟩
    · rcases keyIs_shape hb with ⟨j, u, rfl, e⟩ | ⟨y, u, rfl, e⟩
      · injection e with e1 _; rw [e1]
      · exact nomatch e
    · rcases keyIs_shape hb with ⟨j, u, rfl, e⟩ | ⟨y, u, rfl, e⟩
      · exact nomatch e
      · injection e with e1 _; rw [e1]
  byValue := fun k v h => by
    rcases keyIs_shape h with ⟨i, t, rfl, rfl⟩ | ⟨x, t, rfl, rfl⟩ <;> rfl
  pyHash := fun hv h => by
    rcases keyIs_shape hv with ⟨i, t, rfl, rfl⟩ | ⟨x, t, rfl, rfl⟩
    · exact wpAny_pyHash_int h
    · exact wpAny_pyHash_str h
  eqBool := fun hu hv h => by
    rcases keyIs_shape hu with ⟨i, t, rfl, rfl⟩ | ⟨x, t, rfl, rfl⟩
    · rcases keyIs_shape hv with ⟨j, u, rfl, rfl⟩ | ⟨y, u, rfl, rfl⟩
      · rw [key_ll] at h; exact wpAny_eqBool_int h
      · rw [key_lr] at h; exact SeqAt.EqAt.int_str i t y u _ _ _ _ h
    · rcases keyIs_shape hv with ⟨j, u, rfl, rfl⟩ | ⟨y, u, rfl, rfl⟩
      · rw [key_rl] at h; exact SeqAt.EqAt.str_int x t j u _ _ _ _ h
      · rw [key_rr] at h; exact wpAny_eqBool_str h
  «strs» := fun k x t v h => by
    rcases keyIs_shape h with ⟨i, u, rfl, e⟩ | ⟨y, u, rfl, e⟩
    · exact nomatch e
    · injection e with e1 _
      subst e1
      cases v <;> rfl
theorem mixKind_int (prog : Program) (w : World) (i : Int) (t : Tok) : (mixKind prog w).is (.inl i) (.int i t) = true := keyIs_int i t
theorem mixKind_str (prog : Program) (w : World) (x : Str) (t : Tok) : (mixKind prog w).is (.inr x) (.str x t) = true := keyIs_str x t
end L2
namespace L2
open PySem PySem.Spec PyProof.Rows
inductive V where
  | non | bl (b : Bool) | int (i : Int) | str (x : Str) | byt (b : Array UInt8) | flt (b : UInt64) | ref (a : Addr) | ty (n : String)
  deriving DecidableEq
def RelV : V → Value → Prop
  | .non, u => u = Value.none
  | .bl b, u => u = Value.bool b
  | .int i, u => ∃ t, u = Value.int i t
  | .str x, u => ∃ t, u = Value.str x t
  | .byt b, u => ∃ t, u = Value.bytes b t
  | .flt b, u => ∃ t, u = Value.float b t
  | .ref a, u => u = Value.ref a
  | .ty n, u => u = Value.type n
abbrev Vals : List V → List Value → Prop := Paired RelV
theorem Vals.length {xs : List V} {us : List Value} (r : Vals xs us) : xs.length = us.length := Paired.length r
theorem Vals.get : ∀ {xs : List V} {us : List Value} {i : Nat} {x : V}, Vals xs us → xs[i]? = some x → ∃ u, us[i]? = some u ∧ RelV x u
  | _, _, _, _, .nil, e => by simp at e
  | _, _, 0, _, .cons r _, e => by simp at e; subst e; exact ⟨_, rfl, r⟩
  | _, _, i + 1, x, .cons _ t, e => by
    obtain ⟨u, h1, h2⟩ := Vals.get (i := i) (x := x) t (by simpa using e)
    exact ⟨u, by simpa using h1, h2⟩
theorem Vals.set {x : V} {u : Value} (r : RelV x u) : ∀ {xs : List V} {us : List Value} (i : Nat), Vals xs us → Vals (xs.set i x) (us.set i u)
  | _, _, _, .nil => .nil
  | _, _, 0, .cons _ t => .cons r t
  | _, _, i + 1, .cons q t => .cons q (Vals.set r i t)
theorem Vals.append : ∀ {xs ys : List V} {us ws : List Value}, Vals xs us → Vals ys ws → Vals (xs ++ ys) (us ++ ws)
  | _, _, _, _, .nil, s => s
  | _, _, _, _, .cons r t, s => .cons r (Vals.append t s)
theorem Vals.take : ∀ {xs : List V} {us : List Value} (n : Nat), Vals xs us → Vals (xs.take n) (us.take n)
  | _, _, 0, _ => .nil
  | _, _, _ + 1, .nil => .nil
  | _, _, n + 1, .cons r t => .cons r (Vals.take n t)
theorem Vals.drop : ∀ {xs : List V} {us : List Value} (n : Nat), Vals xs us → Vals (xs.drop n) (us.drop n)
  | _, _, 0, r => r
  | _, _, _ + 1, .nil => .nil
  | _, _, n + 1, .cons _ t => Vals.drop n t
theorem Vals.none_of : ∀ {xs : List V} {us : List Value} {i : Nat}, Vals xs us → xs[i]? = none → us[i]? = none := fun {xs us i} r e => by
  have h1 := r.length
  have h2 : xs.length ≤ i := List.getElem?_eq_none_iff.mp e
  exact List.getElem?_eq_none_iff.mpr (by omega)
def RelO : Option V → Option Value → Prop
  | some v, some u => RelV v u
  | none, none => True
  | _, _ => False
def KV {κ : Type} : List (κ × V) → List (κ × Value) → Prop := Paired fun (p : κ × V) (q : κ × Value) => p.1 = q.1 ∧ RelV p.2 q.2
def kV : Key → V
  | .inl i => .int i
  | .inr x => .str x
inductive HO where
  | lst (xs : List V)
  | tup (xs : List V)
  | dK (kvs : List (Key × V)) | dT (kvs : List (List Key × V))
  | set (S : Int → Bool) (n : Nat)
  | ins (C dx : Addr) (fs : List (Str × V))
  | own (x : Addr)
  | xd (fs : List (Str × V))
  | met (f x : Addr)
  | rng (lo hi : Int)
  | frz (o : Obj) (u : HO)
  | tbl (ps : Array Value)
  | ext (φ : Heap → Prop)
abbrev Hp := Addr → Option HO
def upd (H : Hp) (a : Addr) (o : HO) : Hp := fun b => if b = a then some o else H b
theorem upd_same {H : Hp} {a : Addr} {o : HO} : upd H a o a = some o := by unfold upd; rw [if_pos rfl]
theorem upd_ne {H : Hp} {a b : Addr} {o : HO} (h : b ≠ a) : upd H a o b = H b := by unfold upd; rw [if_neg h]
theorem ne_of_none {H : Hp} {a b : Addr} {o : HO} (h : H a = some o) (h' : H b = none) : a ≠ b := by
  intro e; subst e; rw [h] at h'; cases h'
section
variable (P : Program) (w : World)
def ObjOk (H : Hp) (h : Heap) (a : Addr) : HO → Prop
  | .lst xs => xs.length ≤ sizeLine ∧ ∃ (its : List Value) (n : Nat), Vals xs its ∧ h.get? a = some { cls := .type "list", data := .seq its.toArray n }
  | .tup xs => xs.length ≤ sizeLine ∧ ∃ its : List Value, Vals xs its ∧ IsTup h a its.toArray
  | .dK kvs => kvs.length ≤ sizeLine ∧ (a == sysModules) = false ∧ ∃ vs, KV kvs vs ∧ h.DictOf (mixKind P w) a vs
  | .dT kvs => kvs.length ≤ sizeLine ∧ (a == sysModules) = false ∧ ∃ xs : List (List Key × Addr × Value),
      Paired (fun (p : List Key × V) (q : List Key × Addr × Value) => p.1 = q.1 ∧ H q.2.1 = some (.tup (p.1.map kV)) ∧ RelV p.2 q.2.2) kvs xs ∧
      ∃ o es ep, h.get? a = some o ∧ o.ExactDict ∧ o.data = .dict es ep ∧ es.toList = xs.map (entryOfKey (tupleKind (mixKind P w))) ∧ (xs.map (·.1)).Nodup
  | .set S n => h.SetOf (intKind P w) a S n
  | .ins C dx fs => H dx = some (.own a) ∧ fs.length ≤ 1000 ∧ dx ≠ a ∧ h.get? a = some (PySem.W.instObj C dx) ∧
      ∃ mA, h.Ns1 dx mA ∧ (∀ f, RelO (fs.lookup f) (mA f)) ∧ PySem.Within mA (fs.map (·.1))
  | .own _ => ∃ o, h.get? a = some o
  | .xd fs => ∃ mA, h.Ns1 a mA ∧ ∀ f, RelO (fs.lookup f) (mA f)
  | .rng lo hi => ∃ t u v, h.get? a = some { cls := .type "range", data := .fields #[.int lo t, .int hi u, .int 1 v] }
  | .frz o u => h.get? a = some o ∧ ObjOk H h a u
  | .tbl ps => h.get? a = some { cls := .none, data := .fields ps }
  | .met f x => h.get? a = some (PySem.W.methodObj (.ref f) (.ref x))
  | .ext φ => φ h ∧ (∃ o, h.get? a = some o) ∧ ∀ h1 h2 : Heap, φ h1 → (∀ o, h1.get? a = some o → h2.get? a = some o) → φ h2
def HOk (H : Hp) (h : Heap) : Prop := ∀ a o, H a = some o → ObjOk P w H h a o
end
section
variable {P : Program} {w : World} {H H' : Hp} {h h' : Heap} {a : Addr} {o : HO}
theorem ObjOk.lt (x : ObjOk P w H h a o) : a < h.objs.size := by
  cases o with
  | lst xs => obtain ⟨_, _, _, _, e⟩ := x; exact Heap.lt_size e
  | tup xs => obtain ⟨_, _, _, p⟩ := x; exact p.lt
  | dK kvs => obtain ⟨_, _, _, _, o, _, _, e, _⟩ := x; exact Heap.lt_size e
  | dT kvs => obtain ⟨_, _, _, _, o, _, _, e, _⟩ := x; exact Heap.lt_size e
  | set S n => obtain ⟨o, _, _, _, e, _⟩ := x; exact Heap.lt_size e
  | ins C dx fs => obtain ⟨_, _, _, e, _⟩ := x; exact Heap.lt_size e
  | own y => obtain ⟨_, e⟩ := x; exact Heap.lt_size e
  | xd fs => obtain ⟨_, ⟨_, _, _, e, _⟩, _⟩ := x; exact Heap.lt_size e
  | rng lo hi => obtain ⟨_, _, _, e⟩ := x; exact Heap.lt_size e
  | frz ob u => obtain ⟨e, _⟩ := x; exact Heap.lt_size e
  | tbl ps => exact Heap.lt_size (show h.get? a = some _ from x)
  | met f y => exact Heap.lt_size (show h.get? a = some _ from x)
  | ext φ => obtain ⟨_, ⟨_, e⟩, _⟩ := x; exact Heap.lt_size e
theorem Paired.mapP {α β : Type} {F G : α → β → Prop} : ∀ {l₁ : List α} {l₂ : List β}, Paired F l₁ l₂ → (∀ a b, F a b → G a b) → Paired G l₁ l₂
  | _, _, .nil, _ => .nil
  | _, _, .cons r t, f => .cons (f _ _ r) (Paired.mapP t f)
theorem ObjOk.stay (x : ObjOk P w H h a o) (k : ∀ b u, (b = a ∨ H b = some (.own a)) → h.get? b = some u → h'.get? b = some u)
    (ho : ∀ b, H b = some (.own a) → H' b = some (.own a)) (ht : ∀ b xs, H b = some (.tup xs) → H' b = some (.tup xs)) : ObjOk P w H' h' a o := by
  induction o with
  | lst xs => obtain ⟨z, its, n, r, e⟩ := x; exact ⟨z, its, n, r, k _ _ (.inl rfl) e⟩
  | tup xs => obtain ⟨z, its, r, ob, e, c⟩ := x; exact ⟨z, its, r, ob, k _ _ (.inl rfl) e, c⟩
  | dK kvs => obtain ⟨z, y, vs, r, ob, es, ep, e, c⟩ := x; exact ⟨z, y, vs, r, ob, es, ep, k _ _ (.inl rfl) e, c⟩
  | dT kvs =>
    obtain ⟨z, y, xs, r, ob, es, ep, e, c⟩ := x
    exact ⟨z, y, xs, Paired.mapP r fun p q z => ⟨z.1, ht _ _ z.2.1, z.2.2⟩, ob, es, ep, k _ _ (.inl rfl) e, c⟩
  | set S n => obtain ⟨ob, es, ep, t, e, c⟩ := x; exact ⟨ob, es, ep, t, k _ _ (.inl rfl) e, c⟩
  | ins C dx fs =>
    obtain ⟨d, z, ne, e, mA, ⟨od, es, ep, e2, c⟩, r⟩ := x
    exact ⟨ho _ d, z, ne, k _ _ (.inl rfl) e, mA, ⟨od, es, ep, k _ _ (.inr d) e2, c⟩, r⟩
  | own y => obtain ⟨ob, e⟩ := x; exact ⟨ob, k _ _ (.inl rfl) e⟩
  | xd fs => obtain ⟨mA, ⟨od, es, ep, e, c⟩, r⟩ := x; exact ⟨mA, ⟨od, es, ep, k _ _ (.inl rfl) e, c⟩, r⟩
  | rng lo hi => obtain ⟨t, u, v, e⟩ := x; exact ⟨t, u, v, k _ _ (.inl rfl) e⟩
  | frz ob u ih => obtain ⟨e, q⟩ := x; exact ⟨k _ _ (.inl rfl) e, ih q⟩
  | tbl ps =>
    have e : h.get? a = some { cls := .none, data := .fields ps } := x
    show h'.get? a = some { cls := .none, data := .fields ps }
    exact k a _ (.inl rfl) e
  | met f y =>
    have e : h.get? a = some (PySem.W.methodObj (.ref f) (.ref y)) := x
    show h'.get? a = some (PySem.W.methodObj (.ref f) (.ref y))
    exact k a _ (.inl rfl) e
  | ext φ => obtain ⟨p, ⟨o, e⟩, st⟩ := x; exact ⟨st _ _ p fun o q => k _ _ (.inl rfl) q, ⟨o, k _ _ (.inl rfl) e⟩, st⟩
theorem HOk.lt (x : HOk P w H h) (e : H a = some o) : a < h.objs.size := (x a o e).lt
theorem HOk.fresh (x : HOk P w H h) (e : h.objs.size ≤ a) : H a = none := by
  cases q : H a with
  | none => rfl
  | some u => exact absurd (Nat.lt_of_lt_of_le (x.lt q) e) (Nat.lt_irrefl _)
theorem HOk.kept (x : HOk P w H h) (k : ∀ b u, h.get? b = some u → h'.get? b = some u) : HOk P w H h' := fun a o e =>
  (x a o e).stay (fun b u _ q => k b u q) (fun _ q => q) fun _ _ q => q
theorem HOk.laid (x : HOk P w H h) (k : ∀ b u, h.get? b = some u → h'.get? b = some u) (hp : h.objs.size ≤ a) (new : ObjOk P w (upd H a o) h' a o) : HOk P w (upd H a o) h' := fun b u e => by
  have hn := x.fresh hp
  by_cases hb : b = a
  · subst hb; rw [upd_same] at e; cases e; exact new
  · rw [upd_ne hb] at e
    exact (x b u e).stay (fun c v _ q => k c v q) (fun c q => by rw [upd_ne (ne_of_none q hn)]; exact q) fun c xs q => by rw [upd_ne (ne_of_none q hn)]; exact q
end
def Rd (H : Hp) (a : Addr) (u : HO) : Prop := H a = some u ∨ ∃ o, H a = some (.frz o u)
theorem Rd.of {H : Hp} {a : Addr} {u : HO} (h : H a = some u) : Rd H a u := .inl h
theorem Rd.ok {P : Program} {w : World} {H : Hp} {h : Heap} {a : Addr} {u : HO} (r : Rd H a u) (x : HOk P w H h) : ObjOk P w H h a u := by
  rcases r with r | ⟨o, r⟩
  · exact x a u r
  · obtain ⟨_, q⟩ := x a _ r
    exact q
def Mut : Option HO → Prop
  | some (.lst _) => True
  | some (.dK _) => True
  | some (.dT _) => True
  | some (.set _ _) => True
  | some (.ins _ _ _) => True
  | some (.ext _) => True
  | _ => False
section
variable {P : Program} {w : World} {H : Hp} {h h' : Heap} {x e : Addr} {o' : HO}
theorem HOk.write (ok : HOk P w H h) (mu : Mut (H x)) (he : e = x ∨ H e = some (.own x)) (k : ∀ b u, b ≠ e → h.get? b = some u → h'.get? b = some u) (heo : ∃ u, h'.get? e = some u)
    (new : ObjOk P w (upd H x o') h' x o') : HOk P w (upd H x o') h' := fun b u q => by
  have nown : ∀ c y, H c = some (.own y) → c ≠ x := fun c y r z => by subst z; rw [r] at mu; exact mu
  have ntup : ∀ c xs, H c = some (.tup xs) → c ≠ x := fun c xs r z => by subst z; rw [r] at mu; exact mu
  by_cases hb : b = x
  · subst hb; rw [upd_same] at q; cases q; exact new
  · rw [upd_ne hb] at q
    by_cases hbe : b = e
    · have q' : H b = some (.own x) := by
        rcases he with z | z
        · exact absurd (hbe.trans z) hb
        · rw [hbe]; exact z
      rw [q] at q'; cases q'
      obtain ⟨v, hv⟩ := heo
      exact ⟨v, by rw [hbe]; exact hv⟩
    · refine (ok b u q).stay (fun c v hc r => k c v ?_ r) (fun c r => by rw [upd_ne (nown c b r)]; exact r) fun c xs r => by rw [upd_ne (ntup c xs r)]; exact r
      rcases hc with rfl | hc
      · exact hbe
      · rintro rfl
        rcases he with z | z
        · exact nown c b hc z
        · rw [hc] at z; cases z; exact hb rfl
end
structure Un (fs ex : List Addr) (H H' : Hp) (h h' : Heap) : Prop where
  keep : ∀ b o, h.get? b = some o → H b = none → b ∉ fs → b ∉ ex → h'.get? b = some o
  slot : ∀ b o, h.get? b = some o → H b = none → b ∈ fs → b ∉ ex → ∃ sl, h'.get? b = some { o with slots := sl }
  free : ∀ b o, h.get? b = some o → H b = none → b ∉ ex → H' b = none
  there : ∀ b o, h.get? b = some o → b ∉ ex → ∃ o', h'.get? b = some o'
  tups : ∀ b xs, H b = some (.tup xs) → H' b = some (.tup xs)
  frzs : ∀ b o u, H b = some (.frz o u) → H' b = some (.frz o u)
  tbls : ∀ b ps, H b = some (.tbl ps) → ∃ more, H' b = some (.tbl (ps ++ more))
section
variable {fs fs' ex ex' : List Addr} {H H1 H2 : Hp} {h h1 h2 h' : Heap} {a x e : Addr} {o : HO}
theorem Un.any (u : Un fs ex H H1 h h1) {b : Addr} {ob : Obj} (q : h.get? b = some ob) (n : H b = none) (hx : b ∉ ex) : ∃ sl, h1.get? b = some { ob with slots := sl } := by
  by_cases hb : b ∈ fs
  · exact u.slot b ob q n hb hx
  · exact ⟨ob.slots, u.keep b ob q n hb hx⟩
theorem Un.trans (a : Un fs ex H H1 h h1) (b : Un fs ex H1 H2 h1 h2) : Un fs ex H H2 h h2 where
  keep := fun c ob q n hc hx => b.keep c ob (a.keep c ob q n hc hx) (a.free c ob q n hx) hc hx
  slot := fun c ob q n hc hx => by
    obtain ⟨sl, e1⟩ := a.slot c ob q n hc hx
    obtain ⟨sl', e2⟩ := b.slot c _ e1 (a.free c ob q n hx) hc hx
    exact ⟨sl', e2⟩
  free := fun c ob q n hx => by
    obtain ⟨o', e1⟩ := a.there c ob q hx
    exact b.free c o' e1 (a.free c ob q n hx) hx
  there := fun c ob q hx => by
    obtain ⟨o', e1⟩ := a.there c ob q hx
    exact b.there c o' e1 hx
  tups := fun c xs q => b.tups c xs (a.tups c xs q)
  frzs := fun c ob xs q => b.frzs c ob xs (a.frzs c ob xs q)
  tbls := fun c ps q => by
    obtain ⟨m1, e1⟩ := a.tbls c ps q
    obtain ⟨m2, e2⟩ := b.tbls c _ e1
    exact ⟨m1 ++ m2, by rw [e2, Array.append_assoc]⟩
theorem Un.kept (k : ∀ b u, h.get? b = some u → h'.get? b = some u) : Un fs ex H H h h' :=
  ⟨fun b ob q _ _ _ => k b ob q, fun b ob q _ _ _ => ⟨ob.slots, k b ob q⟩, fun _ _ _ n _ => n, fun b ob q _ => ⟨ob, k b ob q⟩, fun _ _ q => q, fun _ _ _ q => q, fun _ ps q => ⟨#[], by rw [q]; simp⟩⟩
theorem Un.refl : Un fs ex H H h h := Un.kept fun _ _ q => q
theorem Un.laid (k : ∀ b u, h.get? b = some u → h'.get? b = some u) (hp : h.objs.size ≤ a) (hn : H a = none) : Un fs ex H (upd H a o) h h' where
  keep := fun b u q _ _ _ => k b u q
  slot := fun b u q _ _ _ => ⟨u.slots, k b u q⟩
  free := fun b u q n _ => by rw [upd_ne (Nat.ne_of_lt (Nat.lt_of_lt_of_le (Heap.lt_size q) hp))]; exact n
  there := fun b u q _ => ⟨u, k b u q⟩
  tups := fun b xs q => by rw [upd_ne (ne_of_none q hn)]; exact q
  frzs := fun b u xs q => by rw [upd_ne (ne_of_none q hn)]; exact q
  tbls := fun b ps q => ⟨#[], by rw [upd_ne (ne_of_none q hn), q]; simp⟩
theorem Un.write (mu : Mut (H x)) (he : e = x ∨ H e = some (.own x)) (k : ∀ b u, b ≠ e → h.get? b = some u → h'.get? b = some u) (heo : ∃ u, h'.get? e = some u) : Un fs ex H (upd H x o) h h' := by
  have hx : ∀ b, H b = none → b ≠ x := fun b n z => by subst z; rw [n] at mu; exact mu
  have hb : ∀ b, H b = none → b ≠ e := fun b n z => by
    subst z
    rcases he with r | r
    · exact hx b n r
    · rw [n] at r; cases r
  have hm : ∀ b u, H b = some u → ¬ Mut (some u) → b ≠ x := fun b u q nm z => by subst z; rw [q] at mu; exact nm mu
  refine ⟨fun b u q n _ _ => k b u (hb b n) q, fun b u q n _ _ => ⟨u.slots, k b u (hb b n) q⟩, fun b u q n _ => by rw [upd_ne (hx b n)]; exact n, fun b u q _ => ?_,
    fun b xs q => by rw [upd_ne (hm b _ q fun z => z)]; exact q, fun b u xs q => by rw [upd_ne (hm b _ q fun z => z)]; exact q, fun b ps q => ⟨#[], by rw [upd_ne (hm b _ q fun z => z), q]; simp⟩⟩
  by_cases hbe : b = e
  · subst hbe; exact heo
  · exact ⟨u, k b u hbe q⟩
theorem Un.mono (u : Un fs ex H H1 h h1) (hs : ∀ b ∈ fs, b ∈ fs') (hx : ∀ b ∈ ex, b ∈ ex') : Un fs' ex' H H1 h h1 :=
  ⟨fun b ob q n hb he => u.keep b ob q n (fun z => hb (hs b z)) fun z => he (hx b z), fun _ _ q n _ he => u.any q n fun z => he (hx _ z), fun b ob q n he => u.free b ob q n fun z => he (hx b z), fun b ob q he => u.there b ob q fun z => he (hx b z), u.tups, u.frzs, u.tbls⟩
end
def trk (h : Heap) (H : Hp) : List Addr := (List.range h.objs.size).filter fun a => (H a).isSome
def hidT (h : Heap) (H : Hp) : Heap := PySem.W.hideAll h (trk h H)
theorem hidT_size (h : Heap) (H : Hp) : (hidT h H).objs.size = h.objs.size := PySem.W.hideAll_size _ _
theorem hidT_get {h : Heap} {H : Hp} {b : Addr} {o : Obj} (e : h.get? b = some o) (n : H b = none) : (hidT h H).get? b = some o :=
  PySem.W.hideAll_get _ e fun hm => by
    have q : (H b).isSome = true := (List.mem_filter.mp hm).2
    rw [n] at q; simp at q
theorem of_hidT {h : Heap} {H : Hp} {b : Addr} {o : Obj} (e : (hidT h H).get? b = some o) : h.get? b = some o ∧ H b = none := by
  have e' : h.get? b = some o := PySem.W.of_hideAll (trk h H) e
  refine ⟨e', ?_⟩
  cases q : H b with
  | none => rfl
  | some x =>
    have hm : b ∈ trk h H := List.mem_filter.mpr ⟨List.mem_range.mpr (Heap.lt_size e'), by simp [q]⟩
    have z : (hidT h H).get? b = none := PySem.W.hideAll_none (trk h H) hm
    rw [z] at e; cases e
def allNews (g h : Heap) (L : Addr) : List (Addr × Obj) := (List.range h.objs.size).filterMap fun a => if a = L ∨ (g.get? a).isSome = true then none else (h.get? a).map fun o => (a, o)
def rest (g h : Heap) (L d : Addr) : List (Addr × Obj) := (allNews g h L).filter fun p => decide (p.1 ≠ d)
end L2
namespace L2
open PySem PySem.Spec PyProof.Rows
structure Mod (K : PySem.W.Frag) (mg : Str → Option Value) (base : Heap) : Prop where
  kin : K.In base
  glob : base.Ns mainGlobals mg
  blt : ∃ mb, base.Ns builtinsNs mb ∧ ∀ x : Str, x ≠ "__name__" → mb x = bootBuiltins x
  nolimit : base.NoLimit
structure Cx where
  prog : Program
  w : World
  K : PySem.W.Frag
  mg : Str → Option Value
  base : Heap
  A : Around
  N : List Str
  s₀ : Shared
  H₀ : Hp
  env : Env
  outer : List Env
  stack : List Env
  ex : List Addr
  fn : Str → Bool
  calm : Bool
  pn : List (Addr × Obj)
  xe : Value → Shared → Prop
def frs (l : List Env) : List Addr := l.filterMap (·.frame)
abbrev Cx.fs (X : Cx) : List Addr := frs X.outer
def Vis (sc : Scope) (x : Str) : Prop := sc.names.lookup x = some .local ∨ sc.names.lookup x = some .cell ∨ sc.names.lookup x = some .free
def Loc (sc : Scope) (x : Str) : Prop := sc.names.lookup x = some .local ∨ sc.names.lookup x = some .cell
def Look (env : Env) (h : Heap) (m : Str → Option Value) (x : Str) (u : Value) : Prop :=
  (env.kindOf x = some .local ∧ m x = some u) ∨ ((env.kindOf x = some .cell ∨ env.kindOf x = some .free) ∧ ∃ c, env.cells.lookup x = some c ∧ h.IsCell c (some u))
structure Cx.Ok (X : Cx) : Prop where
  mod : Mod X.K X.mg X.base
  kind : X.env.scope.kind = .function
  glob : X.env.globals = mainGlobals
  blt : X.env.builtins = builtinsNs
  above : X.s₀.heap.objs.size ≤ X.env.locals
  inj : ∀ x y c, X.env.cells.lookup x = some c → X.env.cells.lookup y = some c → x = y
  has : ∀ x, (X.env.kindOf x = some .cell ∨ X.env.kindOf x = some .free) → ∃ c, X.env.cells.lookup x = some c
  cab : ∀ x c, X.fn x = true → X.env.cells.lookup x = some c → X.s₀.heap.objs.size ≤ c
  hd : X.calm = true → X.A.handled = none
  frames : X.A.frames = some X.stack
  stk : X.stack = X.outer ∨ (X.stack = X.env :: X.outer ∧ X.env.frame = some X.env.locals)
  exf : ∀ b ∈ X.ex, b ≠ X.env.locals ∧ ∀ x c, X.env.cells.lookup x = some c → c ≠ b
  bs : ∀ b o, X.base.get? b = some o → X.s₀.heap.get? b = some o ∧ X.H₀ b = none
  bsz : X.base.objs.size ≤ X.s₀.heap.objs.size
  noex : ∀ b o, X.base.get? b = some o → b ∉ X.ex
  exfs : ∀ b ∈ X.ex, b ∉ X.fs
  funs : X.s₀.heap.FunFrames X.base X.outer
  frf : ∀ b ∈ X.fs, X.H₀ b = none
structure Inv (X : Cx) (pins : List (Addr × Obj)) (σ : List (Option V)) (H : Hp) (s : Shared) : Prop where
  ok : X.Ok
  os : s.os = X.s₀.os
  bare : AllBare s.gens
  base : Un X.fs X.ex X.H₀ H X.s₀.heap s.heap
  loc : ∃ m, s.heap.Ns X.env.locals m ∧ ∀ (i : Nat) (x : Str) (v : V), X.N[i]? = some x → σ[i]? = some (some v) → Vis X.env.scope x → ∃ u, RelV v u ∧ Look X.env s.heap m x u
  cell : ∀ x c, X.env.cells.lookup x = some c → ∃ v, s.heap.IsCell c v
  free : H X.env.locals = none
  freeC : ∀ x c, X.env.cells.lookup x = some c → H c = none
  pin : ∀ p ∈ X.pn ++ pins, s.heap.get? p.1 = some p.2 ∧ H p.1 = none ∧ p.1 ≠ X.env.locals ∧ p.1 ∉ X.fs ∧ ∀ v, p.2.data ≠ .cell v
  hok : HOk X.prog X.w H s.heap
  len : σ.length = X.N.length
section
variable {X : Cx} {pins : List (Addr × Obj)} {σ : List (Option V)} {H H' : Hp} {s : Shared} {h' : Heap}
theorem Cx.Ok.nofr (ok : X.Ok) {b : Addr} {o : Obj} (e : X.base.get? b = some o) : b ∉ X.fs := fun hb => by
  have := (ok.funs.mem hb).1
  rw [e] at this; cases this
theorem Inv.bs (I : Inv X pins σ H s) : ∀ b o, X.base.get? b = some o → s.heap.get? b = some o ∧ H b = none := fun b o e =>
  ⟨I.base.keep b o (I.ok.bs b o e).1 (I.ok.bs b o e).2 (I.ok.nofr e) (I.ok.noex b o e), I.base.free b o (I.ok.bs b o e).1 (I.ok.bs b o e).2 (I.ok.noex b o e)⟩
theorem Inv.bk (I : Inv X pins σ H s) : ∀ b o, X.base.get? b = some o → s.heap.get? b = some o := fun b o e => (I.bs b o e).1
theorem Inv.mod (I : Inv X pins σ H s) : Mod X.K X.mg X.base := I.ok.mod
theorem Inv.kIn (I : Inv X pins σ H s) : X.K.In s.heap := I.ok.mod.kin.keeps I.bk
theorem Inv.nolimit (I : Inv X pins σ H s) : s.heap.NoLimit := I.ok.mod.nolimit.keeps I.bk
theorem Inv.fr (I : Inv X pins σ H s) : ∃ m, Fr X.base X.env.locals s.heap m :=
  let ⟨m, hn, _⟩ := I.loc
  ⟨m, hn, I.bk, Nat.le_trans I.ok.bsz I.ok.above⟩
theorem Inv.lt (I : Inv X pins σ H s) : X.env.locals < s.heap.objs.size := let ⟨_, hn, _⟩ := I.loc; hn.lt
theorem Inv.sz (I : Inv X pins σ H s) : X.s₀.heap.objs.size ≤ s.heap.objs.size := Nat.le_trans I.ok.above (Nat.le_of_lt I.lt)
theorem Inv.nofs (I : Inv X pins σ H s) {a : Addr} (h : s.heap.objs.size ≤ a) : a ∉ X.fs := fun hb => by
  obtain ⟨_, o, ho, _⟩ := I.ok.funs.mem hb
  exact absurd (Nat.lt_of_lt_of_le (Heap.lt_size ho) (Nat.le_trans I.sz h)) (Nat.lt_irrefl _)
theorem Inv.cne (I : Inv X pins σ H s) : ∀ x c, X.env.cells.lookup x = some c → c ≠ X.env.locals := fun x c e z => by
  obtain ⟨v, o, ho, hd⟩ := I.cell x c e
  obtain ⟨m, ⟨o', es, ep, ho', hd', _⟩, _⟩ := I.loc
  rw [z, ho'] at ho; cases ho; rw [hd'] at hd; cases hd
theorem Inv.funs (I : Inv X pins σ H s) : s.heap.FunFrames X.base X.outer := by
  have all : ∀ (l : List Env), (∀ b ∈ frs l, b ∈ X.fs) → X.s₀.heap.FunFrames X.base l → s.heap.FunFrames X.base l := by
    intro l
    induction l with
    | nil => intro _ _; trivial
    | cons env r ih =>
      intro hs hl
      obtain ⟨hk, ⟨L, o, hf, hn, ho, hd⟩, hr⟩ := hl
      have hL : L ∈ X.fs := hs L (by unfold frs; rw [List.filterMap_cons, hf]; exact List.mem_cons_self)
      obtain ⟨sl, e⟩ := I.base.slot L o ho (I.ok.frf L hL) hL fun z => I.ok.exfs L z hL
      exact ⟨hk, ⟨L, _, hf, hn, e, hd⟩, ih (fun b hb => hs b (by unfold frs; rw [List.filterMap_cons, hf]; exact List.mem_cons_of_mem _ hb)) hr⟩
  exact all X.outer (fun _ hb => hb) I.ok.funs
theorem Inv.stack (I : Inv X pins σ H s) : s.heap.FunFrames X.base X.stack := by
  rcases I.ok.stk with e | ⟨e, hf⟩
  · rw [e]; exact I.funs
  · rw [e]
    obtain ⟨m, hn, _⟩ := I.loc
    refine .cons (by rw [I.ok.kind]; decide) hf hn ?_ I.funs
    exact Heap.get?_none_of_le (Nat.le_trans I.ok.bsz I.ok.above)
theorem Inv.stkSub (I : Inv X pins σ H s) : ∀ b ∈ frs X.stack, b ∈ X.env.locals :: X.fs := fun b hb => by
  rcases I.ok.stk with e | ⟨e, hf⟩
  · rw [e] at hb; exact List.mem_cons_of_mem _ hb
  · rw [e] at hb
    unfold frs at hb
    rw [List.filterMap_cons, hf] at hb
    exact hb
theorem Inv.stkFree (I : Inv X pins σ H s) : ∀ b ∈ frs X.stack, H b = none := fun b hb => by
  rcases List.mem_cons.mp (I.stkSub b hb) with e | hb
  · rw [e]; exact I.free
  · obtain ⟨_, o, ho, _⟩ := I.ok.funs.mem hb
    exact I.base.free b o ho (I.ok.frf b hb) fun z => I.ok.exfs b z hb
theorem Inv.step {g' : Array GenState} {t' : Nat} {d' : Drawn} {ch : List Addr} (I : Inv X pins σ H s)
    (hch : ∀ b ∈ ch, (b ∈ X.ex ∨ X.s₀.heap.objs.size ≤ b) ∧ b ≠ X.env.locals ∧ (∀ x c, X.env.cells.lookup x = some c → c ≠ b) ∧ ∀ p ∈ X.pn ++ pins, p.1 ≠ b)
    (keep : ∀ b o, b ≠ X.env.locals → b ∉ X.fs → b ∉ ch → s.heap.get? b = some o → H b = none → h'.get? b = some o)
    (slot : ∀ b o, b ≠ X.env.locals → b ∈ X.fs → b ∉ ch → s.heap.get? b = some o → H b = none → ∃ sl, h'.get? b = some { o with slots := sl }) (free : ∀ b o, b ∉ ch → s.heap.get? b = some o → H b = none → H' b = none)
    (there : ∀ b o, b ∉ ch → s.heap.get? b = some o → ∃ o', h'.get? b = some o')
    (tups : ∀ b xs, H b = some (.tup xs) → H' b = some (.tup xs)) (frzs : ∀ b o u, H b = some (.frz o u) → H' b = some (.frz o u)) (tbls : ∀ b ps, H b = some (.tbl ps) → ∃ more, H' b = some (.tbl (ps ++ more)))
    (ns : ∀ m, s.heap.Ns X.env.locals m → h'.Ns X.env.locals m) (hok : HOk X.prog X.w H' h') (hg : AllBare g') :
    Inv X pins σ H' { s with heap := h', gens := g', drawn := d', toks := t' } := by
  have neL : ∀ b o, X.s₀.heap.get? b = some o → b ≠ X.env.locals := fun b o e => Nat.ne_of_lt (Nat.lt_of_lt_of_le (Heap.lt_size e) I.ok.above)
  have neC : ∀ b o, X.s₀.heap.get? b = some o → b ∉ X.ex → b ∉ ch := fun b o e hx hb => by
    rcases (hch b hb).1 with z | z
    · exact hx z
    · exact absurd (Nat.lt_of_lt_of_le (Heap.lt_size e) z) (Nat.lt_irrefl _)
  have cellK : ∀ x c, X.env.cells.lookup x = some c → ∀ v, s.heap.IsCell c v → h'.IsCell c v := fun x c e v ⟨o, ho, hd⟩ => by
    have nch : c ∉ ch := fun z => (hch c z).2.2.1 x c e rfl
    by_cases hc : c ∈ X.fs
    · obtain ⟨sl, q⟩ := slot c o (I.cne x c e) hc nch ho (I.freeC x c e)
      exact ⟨_, q, hd⟩
    · exact ⟨o, keep c o (I.cne x c e) hc nch ho (I.freeC x c e), hd⟩
  refine ⟨I.ok, I.os, hg, ⟨fun b o e n hb hx => ?_, fun b o e n hb hx => ?_, fun b o e n hx => ?_, fun b o e hx => ?_, fun b xs e => tups b xs (I.base.tups b xs e), fun b o xs e => frzs b o xs (I.base.frzs b o xs e), fun b ps e => ?_⟩, ?_, fun x c e => ?_, ?_, fun x c e => ?_, fun p hp => ?_, hok, I.len⟩
  · exact keep b o (neL b o e) hb (neC b o e hx) (I.base.keep b o e n hb hx) (I.base.free b o e n hx)
  · obtain ⟨sl, e1⟩ := I.base.slot b o e n hb hx
    obtain ⟨sl', e2⟩ := slot b _ (neL b o e) hb (neC b o e hx) e1 (I.base.free b o e n hx)
    exact ⟨sl', e2⟩
  · obtain ⟨o', e1⟩ := I.base.there b o e hx
    exact free b o' (neC b o e hx) e1 (I.base.free b o e n hx)
  · obtain ⟨o', e1⟩ := I.base.there b o e hx
    exact there b o' (neC b o e hx) e1
  · obtain ⟨m1, e1⟩ := I.base.tbls b ps e
    obtain ⟨m2, e2⟩ := tbls b _ e1
    exact ⟨m1 ++ m2, by rw [e2, Array.append_assoc]⟩
  · obtain ⟨m, hn, hl⟩ := I.loc
    refine ⟨m, ns m hn, fun i x v e1 e2 e3 => ?_⟩
    obtain ⟨u, r, l⟩ := hl i x v e1 e2 e3
    refine ⟨u, r, ?_⟩
    rcases l with l | ⟨k, c, e, z⟩
    · exact .inl l
    · exact .inr ⟨k, c, e, cellK x c e _ z⟩
  · obtain ⟨v, z⟩ := I.cell x c e
    exact ⟨v, cellK x c e v z⟩
  · obtain ⟨m, ⟨o, _, _, ho, _⟩, _⟩ := I.loc
    exact free _ o (fun z => (hch _ z).2.1 rfl) ho I.free
  · obtain ⟨v, o, ho, hd⟩ := I.cell x c e
    exact free c o (fun z => (hch c z).2.2.1 x c e rfl) ho (I.freeC x c e)
  · obtain ⟨e, n, ne, nf, d⟩ := I.pin p hp
    have nch : p.1 ∉ ch := fun z => (hch p.1 z).2.2.2 p hp rfl
    exact ⟨keep p.1 p.2 ne nf nch e n, free p.1 p.2 nch e n, ne, nf, d⟩
theorem Inv.un {t' : Nat} (I : Inv X pins σ H s) (u : Un X.fs [] H H' s.heap h') (hok : HOk X.prog X.w H' h') : Inv X pins σ H' { s with heap := h', toks := t' } := by
  obtain ⟨m, ⟨o, es, ep, ho, r⟩, _⟩ := id I.loc
  obtain ⟨sl, hL⟩ := u.any ho I.free (by simp)
  exact I.step (g' := s.gens) (d' := s.drawn) (ch := []) (fun _ z => nomatch z) (fun b o _ hb _ e n => u.keep b o e n hb (by simp)) (fun b o _ hb _ e n => u.slot b o e n hb (by simp)) (fun b o _ e n => u.free b o e n (by simp)) (fun b o _ e => u.there b o e (by simp)) u.tups u.frzs u.tbls (fun m' hm => by
    obtain ⟨o', es', ep', ho', r'⟩ := hm
    rw [ho] at ho'; cases ho'
    exact ⟨_, es', ep', hL, r'⟩) hok I.bare
theorem Inv.call {g' : Array GenState} {t' : Nat} {d' : Drawn} {ch : List Addr} (I : Inv X pins σ H s) (u : Un (frs X.stack) ch H H' s.heap h') (hok : HOk X.prog X.w H' h') (hg : AllBare g')
    (hch : ∀ b ∈ ch, (b ∈ X.ex ∨ X.s₀.heap.objs.size ≤ b) ∧ b ≠ X.env.locals ∧ (∀ x c, X.env.cells.lookup x = some c → c ≠ b) ∧ ∀ p ∈ X.pn ++ pins, p.1 ≠ b) :
    Inv X pins σ H' { s with heap := h', gens := g', drawn := d', toks := t' } := by
  obtain ⟨m, ⟨o, es, ep, ho, r⟩, _⟩ := id I.loc
  obtain ⟨sl, hL⟩ := u.any ho I.free fun z => (hch _ z).2.1 rfl
  exact I.step (ch := ch) hch (fun b o hL hb hc e n => u.keep b o e n (fun z => (List.mem_cons.mp (I.stkSub b z)).elim hL hb) hc) (fun b o _ _ hc e n => u.any e n hc) (fun b o hc e n => u.free b o e n hc) (fun b o hc e => u.there b o e hc) u.tups u.frzs u.tbls (fun m' hm => by
    obtain ⟨o', es', ep', ho', r'⟩ := hm
    rw [ho] at ho'; cases ho'
    exact ⟨_, es', ep', hL, r'⟩) hok hg
theorem Inv.turned {t' : Nat} {it : Addr} (I : Inv X pins σ H s) (k : ∀ b o, b ≠ it → s.heap.get? b = some o → h'.get? b = some o) (hn : H it = none) (hL : it ≠ X.env.locals)
    (h1 : it ∈ X.ex ∨ X.s₀.heap.objs.size ≤ it) (h2 : ∀ x c, X.env.cells.lookup x = some c → c ≠ it) (h3 : ∀ p ∈ X.pn ++ pins, p.1 ≠ it) : Inv X pins σ H { s with heap := h', toks := t' } := by
  have nit : ∀ b u, H b = some u → b ≠ it := fun b u e z => by rw [z, hn] at e; cases e
  refine I.step (g' := s.gens) (d' := s.drawn) (ch := [it]) (fun b hb => ?_) (fun b o _ _ hc e _ => k b o (fun z => hc (by simp [z])) e) (fun b o _ _ hc e _ => ⟨o.slots, k b o (fun z => hc (by simp [z])) e⟩) (fun _ _ _ _ n => n)
    (fun b o hc e => ⟨o, k b o (fun z => hc (by simp [z])) e⟩) (fun _ _ e => e) (fun _ _ _ e => e) (fun b ps e => ⟨#[], by rw [e]; simp⟩) (fun m hm => ?_) (fun b u e => ?_) I.bare
  · have e : b = it := by simpa using hb
    subst e
    exact ⟨h1, hL, h2, h3⟩
  · obtain ⟨o, es, ep, ho, r⟩ := hm
    exact ⟨o, es, ep, k _ o (Ne.symm hL) ho, r⟩
  · refine (I.hok b u e).stay (fun c v hc q => k c v ?_ q) (fun _ q => q) fun _ _ q => q
    rcases hc with z | z
    · rw [z]; exact nit b u e
    · exact nit c _ z
theorem Inv.tok (I : Inv X pins σ H s) (t : Nat) : Inv X pins σ H { s with toks := t } := I.un (h' := s.heap) (t' := t) Un.refl I.hok
theorem Inv.kept {t' : Nat} (I : Inv X pins σ H s) (k : ∀ b u, s.heap.get? b = some u → h'.get? b = some u) : Inv X pins σ H { s with heap := h', toks := t' } := I.un (Un.kept k) (I.hok.kept k)
theorem Inv.laid {a : Addr} {o : HO} {t' : Nat} (I : Inv X pins σ H s) (k : ∀ b u, s.heap.get? b = some u → h'.get? b = some u) (hp : s.heap.objs.size ≤ a) (new : ObjOk X.prog X.w (upd H a o) h' a o) :
    Inv X pins σ (upd H a o) { s with heap := h', toks := t' } := I.un (Un.laid k hp (I.hok.fresh hp)) (I.hok.laid k hp new)
theorem Inv.write {x e : Addr} {o : HO} {t' : Nat} (I : Inv X pins σ H s) (mu : Mut (H x)) (he : e = x ∨ H e = some (.own x)) (k : ∀ b u, b ≠ e → s.heap.get? b = some u → h'.get? b = some u) (heo : ∃ u, h'.get? e = some u)
    (new : ObjOk X.prog X.w (upd H x o) h' x o) : Inv X pins σ (upd H x o) { s with heap := h', toks := t' } := I.un (Un.write mu he k heo) (I.hok.write mu he k heo new)
theorem Inv.pins_of {pins' : List (Addr × Obj)} (I : Inv X pins σ H s) (h : ∀ p ∈ pins', s.heap.get? p.1 = some p.2 ∧ H p.1 = none ∧ p.1 ≠ X.env.locals ∧ p.1 ∉ X.fs ∧ ∀ v, p.2.data ≠ .cell v) : Inv X pins' σ H s :=
  ⟨I.ok, I.os, I.bare, I.base, I.loc, I.cell, I.free, I.freeC, fun p hp => (List.mem_append.mp hp).elim (fun z => I.pin p (List.mem_append_left _ z)) (h p), I.hok, I.len⟩
theorem nodup_ix {N : List Str} (hN : N.Nodup) {i j : Nat} {x : Str} (a : N[i]? = some x) (b : N[j]? = some x) : i = j := by
  obtain ⟨h1, e1⟩ := List.getElem?_eq_some_iff.mp a
  obtain ⟨h2, e2⟩ := List.getElem?_eq_some_iff.mp b
  exact (List.getElem_inj hN).mp (e1.trans e2.symm)
theorem store_ok2 {M : Model} {A : Around} {E : Value → Shared → Prop} {i : Nat} {x : Str} {v : V} {u : Value} {Q : Unit → Shared → Prop} (I : Inv X pins σ H s) (hN : X.N.Nodup) (hi : X.N[i]? = some x) (hx : Loc X.env.scope x) (r : RelV v u)
    (h : ∀ s', Inv X pins (σ.set i (some v)) H s' → (∃ a, Heap.SameBut a s.heap s'.heap ∧ (a = X.env.locals ∨ X.env.cells.lookup x = some a)) → Q () s') (hf : X.fn x = true ∨ X.env.scope.names.lookup x = some .local := by first | exact .inl rfl | exact .inr rfl | assumption) : wpAny M A (storeName X.env x u) Q E s := by
  obtain ⟨m, hn, hl⟩ := id I.loc
  have hcls : (X.env.scope.kind == .class || (X.env.scope.kind == .module && X.env.locals != X.env.globals)) = false := by rw [I.ok.kind]; rfl
  have hiσ : i < σ.length := by rw [I.len]; exact (List.getElem?_eq_some_iff.mp hi).1
  have cne := I.cne
  have tracked : ∀ {a : Addr} {h' : Heap}, (∃ o, s.heap.get? a = some o ∧ H a = none) → Heap.SameBut a s.heap h' → HOk X.prog X.w H h' := fun {a h'} ha hs b ob e => by
    obtain ⟨_, _, hfree⟩ := ha
    refine (I.hok b ob e).stay (fun c w' hc q => (hs.2 c ?_).trans q) (fun _ q => q) fun _ _ q => q
    rintro rfl
    rcases hc with rfl | hc
    · rw [hfree] at e; cases e
    · rw [hfree] at hc; cases hc
  rcases hx with hk | hk
  · refine wpAny_storeName_local hk hn (fun h' hn' hs => ?_) hcls
    obtain ⟨oL, _, _, hoL, _⟩ := id hn
    refine h _ ⟨I.ok, I.os, I.bare, ⟨fun b o e n hb hx => ?_, fun b o e n hb hx => ?_, I.base.free, fun b o e hx => ?_, I.base.tups, I.base.frzs, I.base.tbls⟩, ⟨_, hn', fun j y v' e1 e2 e3 => ?_⟩, fun y c e => ?_, I.free, I.freeC, fun p hp => ?_, tracked ⟨oL, hoL, I.free⟩ hs, by simpa using I.len⟩ ⟨_, hs, .inl rfl⟩
    · exact (hs.2 b (Nat.ne_of_lt (Nat.lt_of_lt_of_le (Heap.lt_size e) I.ok.above))).trans (I.base.keep b o e n hb hx)
    · obtain ⟨sl, e1⟩ := I.base.slot b o e n hb hx
      exact ⟨sl, (hs.2 b (Nat.ne_of_lt (Nat.lt_of_lt_of_le (Heap.lt_size e) I.ok.above))).trans e1⟩
    · obtain ⟨o', e1⟩ := I.base.there b o e hx
      exact ⟨o', (hs.2 b (Nat.ne_of_lt (Nat.lt_of_lt_of_le (Heap.lt_size e) I.ok.above))).trans e1⟩
    · by_cases hj : j = i
      · subst hj
        rw [hi] at e1; cases e1
        rw [List.getElem?_set_self hiσ] at e2
        cases e2
        exact ⟨u, r, .inl ⟨hk, by simp⟩⟩
      · rw [List.getElem?_set_ne (Ne.symm hj)] at e2
        obtain ⟨u', r', q⟩ := hl j y v' e1 e2 e3
        refine ⟨u', r', ?_⟩
        rcases q with ⟨k, e⟩ | ⟨k, c, e, z⟩
        · refine .inl ⟨k, ?_⟩
          have : y ≠ x := fun e => hj (nodup_ix hN e1 (e ▸ hi))
          simp [this, e]
        · exact .inr ⟨k, c, e, z.sameBut hs (cne y c e)⟩
    · obtain ⟨w', z⟩ := I.cell y c e
      exact ⟨w', z.sameBut hs (cne y c e)⟩
    · obtain ⟨e, n, ne, nf, d⟩ := I.pin p hp
      exact ⟨(hs.2 p.1 ne).trans e, n, ne, nf, d⟩
  · have hfn : X.fn x = true := by
      rcases hf with z | z
      · exact z
      · rw [z] at hk; cases hk
    obtain ⟨c, hc⟩ := I.ok.has x (.inl hk)
    obtain ⟨w', z⟩ := I.cell x c hc
    refine wpAny_storeName_cell I.ok.kind hk hc z (fun h' hc' hs => ?_)
    obtain ⟨oc, hoc, hocd⟩ := id z
    refine h { s with heap := h' } ⟨I.ok, I.os, I.bare, ⟨fun b o e n hb hx => ?_, fun b o e n hb hx => ?_, I.base.free, fun b o e hx => ?_, I.base.tups, I.base.frzs, I.base.tbls⟩, ⟨m, hn.sameBut hs (Ne.symm (cne x c hc)), fun j y v' e1 e2 e3 => ?_⟩, fun y c' e => ?_, I.free, I.freeC, fun p hp => ?_, tracked ⟨oc, hoc, I.freeC x c hc⟩ hs, by simpa using I.len⟩ ⟨c, hs, .inr hc⟩
    · exact (hs.2 b (Nat.ne_of_lt (Nat.lt_of_lt_of_le (Heap.lt_size e) (I.ok.cab x c hfn hc)))).trans (I.base.keep b o e n hb hx)
    · obtain ⟨sl, e1⟩ := I.base.slot b o e n hb hx
      exact ⟨sl, (hs.2 b (Nat.ne_of_lt (Nat.lt_of_lt_of_le (Heap.lt_size e) (I.ok.cab x c hfn hc)))).trans e1⟩
    · obtain ⟨o', e1⟩ := I.base.there b o e hx
      exact ⟨o', (hs.2 b (Nat.ne_of_lt (Nat.lt_of_lt_of_le (Heap.lt_size e) (I.ok.cab x c hfn hc)))).trans e1⟩
    · by_cases hj : j = i
      · subst hj
        rw [hi] at e1; cases e1
        rw [List.getElem?_set_self hiσ] at e2
        cases e2
        exact ⟨u, r, .inr ⟨.inl hk, c, hc, hc'⟩⟩
      · rw [List.getElem?_set_ne (Ne.symm hj)] at e2
        obtain ⟨u', r', q⟩ := hl j y v' e1 e2 e3
        refine ⟨u', r', ?_⟩
        rcases q with q | ⟨k, c', e, z'⟩
        · exact .inl q
        · refine .inr ⟨k, c', e, z'.sameBut hs ?_⟩
          rintro rfl
          exact hj (nodup_ix hN e1 (I.ok.inj _ _ _ e hc ▸ hi))
    · by_cases hcc : c' = c
      · subst hcc; exact ⟨_, hc'⟩
      · obtain ⟨w2, z2⟩ := I.cell y c' e
        exact ⟨w2, z2.sameBut hs hcc⟩
    · obtain ⟨e, n, ne, nf, d⟩ := I.pin p hp
      refine ⟨(hs.2 p.1 ?_).trans e, n, ne, nf, d⟩
      intro q
      rw [q, hoc] at e
      have q' : oc = p.2 := Option.some.inj e
      exact d w' (by rw [← q']; exact hocd)
theorem store_ok {M : Model} {A : Around} {E : Value → Shared → Prop} {i : Nat} {x : Str} {v : V} {u : Value} {Q : Unit → Shared → Prop} (I : Inv X pins σ H s) (hN : X.N.Nodup) (hi : X.N[i]? = some x) (hx : Loc X.env.scope x) (r : RelV v u)
    (h : ∀ s', Inv X pins (σ.set i (some v)) H s' → Q () s') (hf : X.fn x = true ∨ X.env.scope.names.lookup x = some .local := by first | exact .inl rfl | exact .inr rfl | assumption) : wpAny M A (storeName X.env x u) Q E s :=
  store_ok2 I hN hi hx r (fun s' I' _ => h s' I') hf
theorem Inv.call' {s' : Shared} {ch : List Addr} (I : Inv X pins σ H s) (ho : s'.os = s.os) (u : Un (frs X.stack) ch H H' s.heap s'.heap) (hok : HOk X.prog X.w H' s'.heap) (hg : AllBare s'.gens)
    (hch : ∀ b ∈ ch, (b ∈ X.ex ∨ X.s₀.heap.objs.size ≤ b) ∧ b ≠ X.env.locals ∧ (∀ x c, X.env.cells.lookup x = some c → c ≠ b) ∧ ∀ p ∈ X.pn ++ pins, p.1 ≠ b) : Inv X pins σ H' s' := by
  obtain ⟨h', g', d', t', o'⟩ := s'
  have e : o' = s.os := ho
  subst e
  exact I.call (g' := g') (t' := t') (d' := d') u hok hg hch
end
abbrev XK := Value → Option Addr → Hp → Prop
abbrev St := List (Option V)
abbrev VK := V → Hp → Prop
abbrev TE := St → Hp → VK → Prop
abbrev TT := St → Hp → (Bool → Hp → Prop) → Prop
abbrev TA := St → Hp → (List V → Hp → Prop) → Prop
structure Ends where
  nx : St → Hp → Prop
  rt : VK
  bk : St → Hp → Prop := fun _ _ => False
  ct : St → Hp → Prop := fun _ _ => False
abbrev TS := Ends → St → Hp → Prop
def EP (X : Cx) (pins : List (Addr × Obj)) (σ : St) (Q : VK) (u : Value) (s' : Shared) : Prop := ∃ v H', Inv X pins σ H' s' ∧ RelV v u ∧ Q v H'
def TP (X : Cx) (pins : List (Addr × Obj)) (σ : St) (Q : Bool → Hp → Prop) (b : Bool) (s' : Shared) : Prop := ∃ H', Inv X pins σ H' s' ∧ Q b H'
def AP (X : Cx) (pins : List (Addr × Obj)) (σ : St) (Q : List V → Hp → Prop) (us : List Value) (s' : Shared) : Prop := ∃ vs H', Inv X pins σ H' s' ∧ Vals vs us ∧ Q vs H'
def SP (X : Cx) (pins : List (Addr × Obj)) (D : Ends) (f : Flow) (s' : Shared) : Prop :=
  match f with
  | .next => ∃ σ' H', Inv X pins σ' H' s' ∧ D.nx σ' H'
  | .brk => ∃ σ' H', Inv X pins σ' H' s' ∧ D.bk σ' H'
  | .cont => ∃ σ' H', Inv X pins σ' H' s' ∧ D.ct σ' H'
  | .ret u => ∃ v σ' H', Inv X pins σ' H' s' ∧ RelV v u ∧ D.rt v H'
def PE (X : Cx) (e : Expr) (t : TE) : Prop :=
  ∀ (pins : List (Addr × Obj)) (s : Shared) (σ : St) (H : Hp) (Q : VK), Inv X pins σ H s → t σ H Q → wpAny (model X.prog X.w) X.A (eval e X.env) (EP X pins σ Q) X.xe s
def PT (X : Cx) (e : Expr) (t : TT) : Prop :=
  ∀ (pins : List (Addr × Obj)) (s : Shared) (σ : St) (H : Hp) (Q : Bool → Hp → Prop), Inv X pins σ H s → t σ H Q → wpAny (model X.prog X.w) X.A (isTrue e X.env (eval e X.env)) (TP X pins σ Q) X.xe s
def PW (X : Cx) (e : Expr) (t : TT) : Prop :=
  ∀ (whole : Sem Value) (pins : List (Addr × Obj)) (s : Shared) (σ : St) (H : Hp) (Q : Bool → Hp → Prop), Inv X pins σ H s → t σ H Q → wpAny (model X.prog X.w) X.A (isTrue e X.env whole) (TP X pins σ Q) X.xe s
theorem PW.pt {X : Cx} {e : Expr} {t : TT} (h : PW X e t) : PT X e t := h _
def PA (X : Cx) (es : List Expr) (t : TA) : Prop :=
  ∀ (pos : Pos) (pins : List (Addr × Obj)) (s : Shared) (σ : St) (H : Hp) (Q : List V → Hp → Prop), Inv X pins σ H s → t σ H Q → wpAny (model X.prog X.w) X.A (spliced (backTo pos (starEach es X.env))) (AP X pins σ Q) X.xe s
def PS (X : Cx) (st : Stmt) (t : TS) : Prop :=
  ∀ (pins : List (Addr × Obj)) (s : Shared) (σ : St) (H : Hp) (D : Ends), Inv X pins σ H s → t D σ H → wpAny (model X.prog X.w) X.A (exec st X.env) (SP X pins D) X.xe s
def PSs (X : Cx) (st : List Stmt) (t : TS) : Prop :=
  ∀ (pins : List (Addr × Obj)) (s : Shared) (σ : St) (H : Hp) (D : Ends), Inv X pins σ H s → t D σ H → wpAny (model X.prog X.w) X.A (execs st X.env) (SP X pins D) X.xe s
theorem thn {α : Type} {t : Sem α} {Q Q' : α → Shared → Prop} {M : Model} {A : Around} {E : Value → Shared → Prop} {s : Shared} (h : wpAny M A t Q E s) (hQ : ∀ a s, Q a s → Q' a s) : wpAny M A t Q' E s := wpAny_mono h hQ fun _ _ x => x
end L2
namespace L2
open PySem PySem.Spec PyProof.Rows
section
variable {X : Cx}
def tVar (i : Nat) : TE := fun σ H Q => ∃ v, σ[i]? = some (some v) ∧ Q v H
def tC (v : V) : TE := fun _ H Q => Q v H
theorem pe_var {i : Nat} {x : Str} {pos : Pos} (hN : X.N[i]? = some x) (hv : Vis X.env.scope x) (hd : (x == ("__debug__" : Str)) = false := by decide) (hcd : (x == ("__classdict__" : Str)) = false := by decide) : PE X (.Name x pos) (tVar i) := by
  intro pins s σ H Q I h
  obtain ⟨v, e, h⟩ := h
  obtain ⟨m, hn, hl⟩ := I.loc
  obtain ⟨u, r, l⟩ := hl i x v hN e hv
  have fin : EP X pins σ Q u s := ⟨v, H, I, r, h⟩
  rcases l with ⟨hk, hm⟩ | ⟨hk, c, hc, hcell⟩
  · exact wpAny_Name (wpAny_loadName_local I.ok.kind hk hn hm fin) hd
  · rcases hk with hk | hk
    · exact wpAny_Name (wpAny_loadName_cell I.ok.kind hk hc hcell fin) hd
    · exact wpAny_Name (wpAny_loadName_free I.ok.kind hk hc hcell fin hcd) hd
theorem pe_int {i j pos} : PE X (.Constant (.int i) j pos) (tC (.int i)) := fun _ _ _ H _ I h => wpAny_Constant_int ⟨.int i, H, I.tok _, ⟨_, rfl⟩, h⟩
theorem pe_bl {b j pos} : PE X (.Constant (.bool b) j pos) (tC (.bl b)) := fun _ _ _ H _ I h => Constant_bool ⟨.bl b, H, I, rfl, h⟩
theorem pe_non {j pos} : PE X (.Constant .none j pos) (tC .non) := fun _ _ _ H _ I h => Constant_none ⟨.non, H, I, rfl, h⟩
theorem pe_str {x j pos} : PE X (.Constant (.str x) j pos) (tC (.str x)) := fun _ _ _ H _ I h => Calls.Constant_str ⟨.str x, H, I.tok _, ⟨_, rfl⟩, h⟩
def Gl (X : Cx) (x : Str) : Prop := X.env.kindOf x = some .globalImplicit
theorem ld_glob {E : Value → Shared → Prop} {pins : List (Addr × Obj)} {s : Shared} {σ : St} {H : Hp} {x : Str} {u : Value} {pos : Pos} {Q : Value → Shared → Prop} (I : Inv X pins σ H s) (hg : Gl X x) (hm : X.mg x = some u) (h : Q u s)
    (hd : (x == ("__debug__" : Str)) = false := by decide) : wpAny (model X.prog X.w) X.A (eval (.Name x pos) X.env) Q E s :=
  Calls.Name_function_global I.ok.kind hg (Calls.loadGlobal_global (by rw [I.ok.glob]; exact I.mod.glob.keeps I.bk) hm h) hd
theorem ld_blt {E : Value → Shared → Prop} {pins : List (Addr × Obj)} {s : Shared} {σ : St} {H : Hp} {x : Str} {u : Value} {pos : Pos} {Q : Value → Shared → Prop} (I : Inv X pins σ H s) (hg : Gl X x) (hm : X.mg x = none) (hv : bootBuiltins x = some u) (h : Q u s)
    (hn : x ≠ "__name__" := by decide) (hd : (x == ("__debug__" : Str)) = false := by decide) : wpAny (model X.prog X.w) X.A (eval (.Name x pos) X.env) Q E s := by
  obtain ⟨mb, h1, h2⟩ := I.mod.blt
  exact Calls.Name_function_global I.ok.kind hg (Calls.loadGlobal_builtin (by rw [I.ok.glob]; exact I.mod.glob.keeps I.bk) hm (by rw [I.ok.blt]; exact h1.keeps I.bk) ((h2 x hn).trans hv) h) hd
theorem pe_glob {x : Str} {v : V} {u : Value} {pos : Pos} (hg : Gl X x) (hm : X.mg x = some u) (r : RelV v u) (hd : (x == ("__debug__" : Str)) = false := by decide) : PE X (.Name x pos) (tC v) :=
  fun _ _ _ H _ I h => ld_glob I hg hm ⟨v, H, I, r, h⟩ hd
theorem pe_bltn {x : Str} {v : V} {u : Value} {pos : Pos} (hg : Gl X x) (hm : X.mg x = none) (hv : bootBuiltins x = some u) (r : RelV v u) (hn : x ≠ "__name__" := by decide) (hd : (x == ("__debug__" : Str)) = false := by decide) : PE X (.Name x pos) (tC v) :=
  fun _ _ _ H _ I h => ld_blt I hg hm hv ⟨v, H, I, r, h⟩ hn hd
variable {a b : Expr} {ta tb : TE} {pos : Pos}
variable {tA tB' : TT} {rest : List Expr}
def tAnd (t u : TT) : TT := fun σ H Q => t σ H fun c H1 => if c = true then u σ H1 Q else Q false H1
def tOr (t u : TT) : TT := fun σ H Q => t σ H fun c H1 => if c = true then Q true H1 else u σ H1 Q
def tNot (t : TT) : TT := fun σ H Q => t σ H fun c H1 => Q (!c) H1
theorem pw_and1 (ha : PT X a tA) : PW X (.BoolOp .And [a] pos) tA := by
  intro wh pins s σ H Q I h
  refine isTrue_and (thn (ha pins s σ H Q I h) fun c s1 e => ?_)
  cases c with
  | true => exact isTrue_and_nil e
  | false => exact e
theorem pw_or1 (ha : PT X a tA) : PW X (.BoolOp .Or [a] pos) tA := by
  intro wh pins s σ H Q I h
  refine isTrue_or (thn (ha pins s σ H Q I h) fun c s1 e => ?_)
  cases c with
  | false => exact isTrue_or_nil e
  | true => exact e
theorem pw_and (ha : PT X a tA) (hb : PW X (.BoolOp .And (b :: rest) pos) tB') : PW X (.BoolOp .And (a :: b :: rest) pos) (tAnd tA tB') := by
  intro wh pins s σ H Q I h
  refine isTrue_and (thn (ha pins s σ H _ I h) fun c s1 ⟨H1, I1, q1⟩ => ?_)
  cases c with
  | true => exact hb wh pins s1 σ H1 Q I1 q1
  | false => exact ⟨H1, I1, q1⟩
theorem pw_or (ha : PT X a tA) (hb : PW X (.BoolOp .Or (b :: rest) pos) tB') : PW X (.BoolOp .Or (a :: b :: rest) pos) (tOr tA tB') := by
  intro wh pins s σ H Q I h
  refine isTrue_or (thn (ha pins s σ H _ I h) fun c s1 ⟨H1, I1, q1⟩ => ?_)
  cases c with
  | true => exact ⟨H1, I1, q1⟩
  | false => exact hb wh pins s1 σ H1 Q I1 q1
theorem pt_not (ha : PT X a tA) : PT X (.UnaryOp .Not a pos) (tNot tA) := by
  intro pins s σ H Q I h
  exact isTrue_not (ha pins s σ H (fun c H1 => Q (!c) H1) I h)
def tAndV (ta tb : TE) : TE := fun σ H Q => ta σ H fun x H1 => ∃ c, x = .bl c ∧ if c = true then tb σ H1 Q else Q (.bl false) H1
def tNotV (ta : TE) : TE := fun σ H Q => ta σ H fun x H1 => ∃ c, x = .bl c ∧ Q (.bl (!c)) H1
theorem pe_one {op} {t : TE} (h : PE X a t) : PE X (.BoolOp op [a] pos) t := fun pins s σ H Q I hw => BoolOp_one (h pins s σ H Q I hw)
theorem pe_and (ha : PE X a ta) (hb : PE X (.BoolOp .And (b :: rest) pos) tb) : PE X (.BoolOp .And (a :: b :: rest) pos) (tAndV ta tb) := by
  intro pins s σ H Q I h
  refine BoolOp_and (thn (ha pins s σ H _ I h) fun v s1 ⟨x, H1, I1, r1, q1⟩ => ?_)
  obtain ⟨c, rfl, q1⟩ := q1
  cases r1
  refine wpAny_truthy_bool ?_
  cases c with
  | true => exact hb pins s1 σ H1 Q I1 q1
  | false => exact ⟨.bl false, H1, I1, rfl, q1⟩
theorem pe_not (ha : PE X a ta) : PE X (.UnaryOp .Not a pos) (tNotV ta) := by
  intro pins s σ H Q I h
  refine UnaryOp_ (thn (ha pins s σ H _ I h) fun v s1 ⟨x, H1, I1, r1, q1⟩ => ?_)
  obtain ⟨c, rfl, q1⟩ := q1
  cases r1
  exact not_of (wpAny_truthy_bool ⟨.bl (!c), H1, I1, rfl, q1⟩)
end
end L2
namespace L2
open PySem PySem.Spec PyProof.Rows
def SqL (K : PySem.W.Frag) (H : Hp) (a : Addr) (xs : List V) : Prop :=
  Rd H a (.lst xs) ∨
    ∃ (o : Obj) (its : Array Value) (n : Nat), K.lookup a = some o ∧ o.cls = .type "list" ∧ o.dict = none ∧ o.data = .seq its n ∧ its.size ≤ sizeLine ∧ Vals xs its.toList
def SqT (K : PySem.W.Frag) (H : Hp) (a : Addr) (xs : List V) : Prop :=
  Rd H a (.tup xs) ∨
    ∃ (o : Obj) (its : Array Value) (n : Nat), K.lookup a = some o ∧ o.cls = .type "tuple" ∧ o.data = .seq its n ∧ its.size ≤ sizeLine ∧ Vals xs its.toList
def absV : Value → Option V
  | .none => some .non
  | .bool b => some (.bl b)
  | .int i _ => some (.int i)
  | .str x _ => some (.str x)
  | .bytes b _ => some (.byt b)
  | .float b _ => some (.flt b)
  | .ref a => some (.ref a)
  | .type n => some (.ty n)
  | _ => none
theorem RelV.abs {x : V} {u : Value} (r : RelV x u) : absV u = some x := by
  cases x with
  | non => cases r; rfl
  | bl _ => cases r; rfl
  | int _ => obtain ⟨t, rfl⟩ := r; rfl
  | str _ => obtain ⟨t, rfl⟩ := r; rfl
  | byt _ => obtain ⟨t, rfl⟩ := r; rfl
  | flt _ => obtain ⟨t, rfl⟩ := r; rfl
  | ref _ => cases r; rfl
  | ty _ => cases r; rfl
theorem RelV.inj {x y : V} {u : Value} (r : RelV x u) (q : RelV y u) : x = y := Option.some.inj (r.abs.symm.trans q.abs)
theorem Vals.inj : ∀ {xs ys : List V} {us : List Value}, Vals xs us → Vals ys us → xs = ys
  | _, _, _, .nil, .nil => rfl
  | _, _, _, .cons r t, .cons r' t' => by rw [r.inj r', Vals.inj t t']
section
variable {X : Cx} {pins : List (Addr × Obj)} {σ : St} {H : Hp} {s : Shared} {a : Addr} {xs ys : List V}
theorem SqL.of {K : PySem.W.Frag} (h : H a = some (.lst xs)) : SqL K H a xs := .inl (.inl h)
theorem SqT.of {K : PySem.W.Frag} (h : H a = some (.tup xs)) : SqT K H a xs := .inl (.inl h)
theorem Inv.list (I : Inv X pins σ H s) (h : SqL X.K H a xs) : ∃ its : List Value, Vals xs its ∧ PlainL s.heap a its.toArray ∧ xs.length ≤ sizeLine := by
  rcases h with h | ⟨o, its, n, hk, hc, hd, hs, hz, r⟩
  · obtain ⟨z, its, n, r, e⟩ := h.ok I.hok
    exact ⟨its, r, ⟨_, n, e, rfl, rfl, rfl⟩, z⟩
  · refine ⟨its.toList, r, ⟨o, n, I.kIn a o hk, hc, hd, by simpa using hs⟩, ?_⟩
    have e := r.length
    simp only [Array.length_toList] at e
    omega
theorem Inv.tuple (I : Inv X pins σ H s) (h : SqT X.K H a xs) : ∃ its : List Value, Vals xs its ∧ IsTup s.heap a its.toArray ∧ xs.length ≤ sizeLine := by
  rcases h with h | ⟨o, its, n, hk, hc, hs, hz, r⟩
  · obtain ⟨z, its, r, p⟩ := h.ok I.hok
    exact ⟨its, r, p, z⟩
  · refine ⟨its.toList, r, ⟨o, I.kIn a o hk, hc, n, by simpa using hs⟩, ?_⟩
    have e := r.length
    simp only [Array.length_toList] at e
    omega
theorem Inv.list_inj (I : Inv X pins σ H s) (h : SqL X.K H a xs) (h' : SqL X.K H a ys) : xs = ys := by
  obtain ⟨its, r, ⟨o, n, e, _, _, d⟩, _⟩ := I.list h
  obtain ⟨its', r', ⟨o', n', e', _, _, d'⟩, _⟩ := I.list h'
  rw [e] at e'; cases e'
  rw [d] at d'
  injection d' with d1 _
  have : its = its' := by simpa using congrArg Array.toList d1
  subst this
  exact r.inj r'
theorem Inv.tuple_inj (I : Inv X pins σ H s) (h : SqT X.K H a xs) (h' : SqT X.K H a ys) : xs = ys := by
  obtain ⟨its, r, ⟨o, e, _, n, d⟩, _⟩ := I.tuple h
  obtain ⟨its', r', ⟨o', e', _, n', d'⟩, _⟩ := I.tuple h'
  rw [e] at e'; cases e'
  rw [d] at d'
  injection d' with d1 _
  have : its = its' := by simpa using congrArg Array.toList d1
  subst this
  exact r.inj r'
end
abbrev Cx.wish (X : Cx) (E : Value → Shared → Prop) : Cx := { X with xe := E }
abbrev Cx.nox (X : Cx) : Cx := X.wish fun _ _ => False
theorem Cx.Ok.wish {X : Cx} (ok : X.Ok) (E : Value → Shared → Prop) : (X.wish E).Ok :=
  ⟨ok.mod, ok.kind, ok.glob, ok.blt, ok.above, ok.inj, ok.has, ok.cab, ok.hd, ok.frames, ok.stk, ok.exf, ok.bs, ok.bsz, ok.noex, ok.exfs, ok.funs, ok.frf⟩
theorem Cx.Ok.unwish {X : Cx} {E : Value → Shared → Prop} (ok : (X.wish E).Ok) : X.Ok :=
  ⟨ok.mod, ok.kind, ok.glob, ok.blt, ok.above, ok.inj, ok.has, ok.cab, ok.hd, ok.frames, ok.stk, ok.exf, ok.bs, ok.bsz, ok.noex, ok.exfs, ok.funs, ok.frf⟩
section
variable {X : Cx} {pins : List (Addr × Obj)} {σ : St} {H : Hp} {s : Shared} {E : Value → Shared → Prop}
theorem Inv.wish (I : Inv X pins σ H s) (E : Value → Shared → Prop) : Inv (X.wish E) pins σ H s := ⟨I.ok.wish E, I.os, I.bare, I.base, I.loc, I.cell, I.free, I.freeC, I.pin, I.hok, I.len⟩
theorem Inv.unwish (I : Inv (X.wish E) pins σ H s) : Inv X pins σ H s := ⟨I.ok.unwish, I.os, I.bare, I.base, I.loc, I.cell, I.free, I.freeC, I.pin, I.hok, I.len⟩
theorem SP.unwish {D : Ends} {f : Flow} {s' : Shared} (h : SP (X.wish E) pins D f s') : SP X pins D f s' := by
  cases f with
  | next => obtain ⟨σ', H', I, q⟩ := h; exact ⟨σ', H', I.unwish, q⟩
  | brk => obtain ⟨σ', H', I, q⟩ := h; exact ⟨σ', H', I.unwish, q⟩
  | cont => obtain ⟨σ', H', I, q⟩ := h; exact ⟨σ', H', I.unwish, q⟩
  | ret u => obtain ⟨v, σ', H', I, r, q⟩ := h; exact ⟨v, σ', H', I.unwish, r, q⟩
theorem PE.nox {e : Expr} {t : TE} (h : PE X.nox e t) : PE X e t := fun pins s σ H Q I hw =>
  wpAny_mono (h pins s σ H Q (I.wish _) hw) (fun _ _ ⟨v, H', I', r, q⟩ => ⟨v, H', I'.unwish, r, q⟩) fun _ _ z => False.elim z
theorem PT.nox {e : Expr} {t : TT} (h : PT X.nox e t) : PT X e t := fun pins s σ H Q I hw =>
  wpAny_mono (h pins s σ H Q (I.wish _) hw) (fun _ _ ⟨H', I', q⟩ => ⟨H', I'.unwish, q⟩) fun _ _ z => False.elim z
theorem PSs.nox {st : List Stmt} {t : TS} (h : PSs X.nox st t) : PSs X st t := fun pins s σ H D I hw =>
  wpAny_mono (h pins s σ H D (I.wish _) hw) (fun _ _ q => q.unwish) fun _ _ z => False.elim z
end
section
variable {X : Cx} {st : Stmt} {rest : List Stmt} {t u : TS} {e : Expr} {te : TE} {pos : Pos}
def tNext : TS := fun D σ H => D.nx σ H
def tSeq (t u : TS) : TS := fun D σ H => t { D with nx := u D } σ H
theorem pss_nil : PSs X [] tNext := fun _ _ σ H _ I h => wpAny_execs_nil ⟨σ, H, I, h⟩
theorem pss_cons (h1 : PS X st t) (h2 : PSs X rest u) : PSs X (st :: rest) (tSeq t u) := by
  intro pins s σ H D I h
  refine wpAny_execs_cons (thn (h1 pins s σ H { D with nx := u D } I h) fun f s1 q => ?_)
  cases f with
  | next =>
    obtain ⟨σ', H', I', q⟩ := q
    exact h2 pins s1 σ' H' D I' q
  | ret v => exact q
  | brk => exact q
  | cont => exact q
theorem pss_one (h1 : PS X st t) : PSs X [st] t := by
  intro pins s σ H D I h
  refine wpAny_execs_cons (thn (h1 pins s σ H D I h) fun f s1 q => ?_)
  cases f with
  | next => exact wpAny_execs_nil q
  | ret v => exact q
  | brk => exact q
  | cont => exact q
theorem Inv.quiet {pins : List (Addr × Obj)} {σ : St} {H : Hp} {s : Shared} (I : Inv X pins σ H s) : interactive X.env = false := by simp [interactive, I.ok.kind]
def tDrop (te : TE) : TS := fun D σ H => te σ H fun _ H1 => D.nx σ H1
theorem ps_expr (he : PE X e te) (hs : swapsWith e none pos.line X.env = pure false := by rfl) : PS X (.Expr e pos) (tDrop te) := by
  intro pins s σ H D I h
  exact wpAny_Expr_any (thn (he pins s σ H _ I h) fun v s1 ⟨x, H1, I1, r1, q1⟩ => ⟨σ, H1, I1, q1⟩) I.quiet hs
def tRet (te : TE) : TS := fun D σ H => te σ H D.rt
theorem ps_ret (he : PE X e te) : PS X (.Return (some e) pos) (tRet te) := by
  intro pins s σ H D I h
  exact wpAny_Return_some (thn (he pins s σ H _ I h) fun v s1 ⟨x, H1, I1, r1, q1⟩ => ⟨x, σ, H1, I1, r1, q1⟩)
def tIfS (c : TT) (t u : TS) : TS := fun D σ H => c σ H fun b H1 => if b = true then t D σ H1 else u D σ H1
theorem ps_if {c : Expr} {a b : List Stmt} {tc : TT} (hc : PT X c tc) (ha : PSs X a t) (hb : PSs X b u) : PS X (.If c a b pos) (tIfS tc t u) := by
  intro pins s σ H D I h
  refine wpAny_If (thn (hc pins s σ H _ I h) fun d s1 ⟨H1, I1, q1⟩ => ?_)
  cases d with
  | true => exact ha pins s1 σ H1 D I1 q1
  | false => exact hb pins s1 σ H1 D I1 q1
end
abbrev TG := V → St → Hp → (St → Hp → Prop) → Prop
abbrev TGs := List V → St → Hp → (St → Hp → Prop) → Prop
def PG (X : Cx) (target : Expr) (t : TG) : Prop :=
  ∀ (pins : List (Addr × Obj)) (s : Shared) (σ : St) (H : Hp) (v : V) (u : Value) (Q : St → Hp → Prop), Inv X pins σ H s → RelV v u → t v σ H Q →
    wpAny (model X.prog X.w) X.A (assign target X.env u) (fun _ s' => ∃ σ' H', Inv X pins σ' H' s' ∧ Q σ' H') X.xe s
def PGs (X : Cx) (ts : List Expr) (t : TGs) : Prop :=
  ∀ (pins : List (Addr × Obj)) (s : Shared) (σ : St) (H : Hp) (vs : List V) (us : List Value) (Q : St → Hp → Prop), Inv X pins σ H s → Vals vs us → t vs σ H Q →
    wpAny (model X.prog X.w) X.A (assignInOrder ((assignEach ts X.env).map (·.2)) us) (fun _ s' => ∃ σ' H', Inv X pins σ' H' s' ∧ Q σ' H') X.xe s
abbrev TSet := V → V → V → Hp → (Hp → Prop) → Prop
def PSet (X : Cx) (t : TSet) : Prop :=
  ∀ (pins : List (Addr × Obj)) (s : Shared) (σ : St) (H : Hp) (o i v : V) (ov iv u : Value) (Q : Hp → Prop), Inv X pins σ H s → RelV o ov → RelV i iv → RelV v u → t o i v H Q →
    wpAny (model X.prog X.w) X.A (setItem ov iv u) (fun _ s' => ∃ H', Inv X pins σ H' s' ∧ Q H') X.xe s
section
variable {X : Cx} {pos : Pos}
def gName (i : Nat) : TG := fun v σ H Q => Q (σ.set i (some v)) H
theorem pg_name {i : Nat} {x : Str} (hN : X.N.Nodup) (hi : X.N[i]? = some x) (hx : Loc X.env.scope x) (hf : X.fn x = true ∨ X.env.scope.names.lookup x = some .local := by first | exact .inl rfl | exact .inr rfl | assumption) : PG X (.Name x pos) (gName i) := by
  intro pins s σ H v u Q I r h
  exact wpAny_assign_Name (store_ok I hN hi hx r (fun s' I' => ⟨_, H, I', h⟩) hf)
def gNil : TGs := fun vs σ H Q => vs = [] ∧ Q σ H
def gCons (t : TG) (u : TGs) : TGs := fun vs σ H Q => ∃ v r, vs = v :: r ∧ t v σ H fun σ' H' => u r σ' H' Q
theorem pgs_nil : PGs X [] gNil := by
  intro pins s σ H vs us Q I r h
  obtain ⟨e, h⟩ := h
  subst e
  cases r
  exact assignInOrder_nil ⟨σ, H, I, h⟩
theorem pgs_cons {e : Expr} {es : List Expr} {t : TG} {u : TGs} (h1 : PG X e t) (h2 : PGs X es u)
    (hs : (assignEach (e :: es) X.env).map (·.2) = assign e X.env :: (assignEach es X.env).map (·.2) := by rfl) : PGs X (e :: es) (gCons t u) := by
  intro pins s σ H vs us Q I r h
  obtain ⟨v, vr, e1, h⟩ := h
  subst e1
  cases r with
  | cons r rr =>
    rw [hs]
    refine assignInOrder_cons (thn (h1 pins s σ H _ _ _ I r h) fun _ s1 ⟨σ1, H1, I1, q1⟩ => ?_)
    exact h2 pins s1 σ1 H1 _ _ Q I1 rr q1
def gTup (K : PySem.W.Frag) (n : Nat) (t : TGs) : TG := fun v σ H Q => ∃ a xs, v = .ref a ∧ SqT K H a xs ∧ xs.length = n ∧ t xs σ H Q
theorem pg_tup {es : List Expr} {k : Nat} {t : TGs} {n : Nat} (hc : X.calm = true) (h : PGs X es t)
    (hn : (assignEach es X.env).length = n := by rfl) (hst : (assignEach es X.env).findIdx? (·.1) = none := by rfl) : PG X (.Tuple es k pos) (gTup X.K n t) := by
  intro pins s σ H v u Q I r hw
  obtain ⟨a, xs, e1, hq, hl, hw⟩ := hw
  subst e1
  cases r
  obtain ⟨its, rv, ht, hz⟩ := I.tuple hq
  refine assign_Tuple_tuple (I.ok.hd hc) ht (by simp [hn, ← hl, rv.length]) hst fun h' hx => ?_
  have I1 : Inv X pins σ H { s with heap := h' } := I.kept (t' := s.toks) fun b o e => hx b o (Nat.ne_of_lt (Heap.lt_size e)) e
  exact h pins _ σ H xs _ Q I1 (by simpa using rv) hw
def gSub (to ti : TE) (t : TSet) : TG := fun v σ H Q => to σ H fun o H1 => ti σ H1 fun i H2 => t o i v H2 fun H3 => Q σ H3
theorem pg_sub {o i : Expr} {to ti : TE} {t : TSet} (ho : PE X o to) (hi : PE X i ti) (hs : PSet X t)
    (ha : ∀ v, assign (.Subscript o i pos) X.env v = (do
      let ov ← holding [v] (eval o X.env)
      let iv ← holding [v, ov] (eval i X.env)
      standAt pos
      holding [v, ov, iv] (setItem ov iv v)
      release [v, ov, iv] []) := by intro _; rfl) : PG X (.Subscript o i pos) (gSub to ti t) := by
  intro pins s σ H v u Q I r h
  rw [ha]
  refine wpAny_bind (wpAny_holding (thn (ho pins s σ H _ I h) fun ov s1 ⟨x, H1, I1, r1, q1⟩ => ?_))
  refine wpAny_bind (wpAny_holding (thn (hi pins s1 σ H1 _ I1 q1) fun iv s2 ⟨y, H2, I2, r2, q2⟩ => ?_))
  refine wpAny_bind (wpAny_standAt (wpAny_bind (wpAny_holding (thn (hs pins s2 σ H2 x y v ov iv u _ I2 r1 r2 r q2) fun _ s3 ⟨H3, I3, q3⟩ => ?_))))
  exact wpAny_release ⟨σ, H3, I3, q3⟩
def tAsg (te : TE) (g : TG) : TS := fun D σ H => te σ H fun x H1 => g x σ H1 D.nx
theorem ps_asg {tg e : Expr} {te : TE} {g : TG} (he : PE X e te) (hg : PG X tg g) (hs : swapsWithSole [tg] e pos.line X.env = pure false := by rfl) (hw : swappedStores [tg] e X.env = pure none := by rfl)
    (h1 : (assignEach [tg] X.env).map (·.2) = [assign tg X.env] := by rfl) : PS X (.Assign [tg] e pos) (tAsg te g) := by
  intro pins s σ H D I h
  refine wpAny_Assign_stores (thn (he pins s σ H _ I h) fun v s1 ⟨x, H1, I1, r1, q1⟩ => ?_) hs hw
  rw [h1]
  exact thn (hg pins s1 σ H1 x v _ I1 r1 q1) fun _ s2 q => q
theorem ps_set {i : Nat} {x : Str} {e : Expr} {te : TE} {pos' : Pos} (hN : X.N.Nodup) (hi : X.N[i]? = some x) (hx : Loc X.env.scope x) (he : PE X e te) (hs : swapsWith e (some (.Name x pos')) pos.line X.env = pure false := by rfl) (hf : X.fn x = true ∨ X.env.scope.names.lookup x = some .local := by first | exact .inl rfl | exact .inr rfl | assumption) :
    PS X (.Assign [.Name x pos'] e pos) (tAsg te (gName i)) := by
  intro pins s σ H D I h
  refine wpAny_Assign_Name (thn (he pins s σ H _ I h) fun v s1 ⟨y, H1, I1, r1, q1⟩ => ?_) hs
  exact store_ok I1 hN hi hx r1 (fun s2 I2 => ⟨_, H1, I2, q1⟩) hf
end
section
variable {X : Cx} {pos : Pos}
def tWhile (c : TT) (tb : TS) : TS := fun D σ H => ∃ W : Nat → St → Hp → Prop, (∃ m, W m σ H) ∧ ∀ m σ H, W m σ H →
  c σ H fun b H1 => if b = true then ∃ N : St → Hp → Prop, (∀ σ' H', N σ' H' → ∃ m', m' < m ∧ W m' σ' H') ∧ tb { D with nx := N, ct := N, bk := D.nx } σ H1 else D.nx σ H1
theorem ps_while {c : Expr} {body : List Stmt} {tc : TT} {tb : TS} (hp : PassesOwn (model X.prog X.w) X.A X.env X.xe) (hc : PT X c tc) (hb : PSs X body tb) : PS X (.While c body [] pos) (tWhile tc tb) := by
  intro pins s σ H D I h
  obtain ⟨W, ⟨m0, w0⟩, turn⟩ := h
  refine wpAny_While (codeAny_whileLoop (fun n s' => ∃ σ' H', Inv X pins σ' H' s' ∧ W n σ' H') ?_ m0 ⟨σ, H, I, w0⟩)
  rintro n s1 ⟨σ1, H1, I1, w1⟩
  refine wpAny_passesOwn hp (thn (hc pins s1 σ1 H1 _ I1 (turn n σ1 H1 w1)) fun b s2 ⟨H2, I2, q2⟩ => ?_)
  cases b with
  | true =>
    obtain ⟨N, hN, q2⟩ := q2
    rw [if_pos rfl]
    refine wpAny_passesOwn hp (thn (hb pins s2 σ1 H2 _ I2 q2) fun f s3 q3 => ?_)
    cases f with
    | next =>
      obtain ⟨σ3, H3, I3, n3⟩ := q3
      obtain ⟨m', hm, w3⟩ := hN σ3 H3 n3
      exact ⟨m', hm, σ3, H3, I3, w3⟩
    | cont =>
      obtain ⟨σ3, H3, I3, n3⟩ := q3
      obtain ⟨m', hm, w3⟩ := hN σ3 H3 n3
      exact ⟨m', hm, σ3, H3, I3, w3⟩
    | brk => exact q3
    | ret v => exact q3
  | false =>
    rw [if_neg Bool.false_ne_true]
    exact wpAny_execs_nil ⟨σ1, H2, I2, q2⟩
end
structure It where
  go : Nat → Hp → Prop
  yld : Nat → Hp → V → Hp → Prop
  stop : Nat → Hp → Prop
def FpOk (X : Cx) (pins : List (Addr × Obj)) (H : Hp) (b : Addr) : Prop :=
  H b = none ∧ b ≠ X.env.locals ∧ b ∉ X.fs ∧ (b ∈ X.ex ∨ X.s₀.heap.objs.size ≤ b) ∧ (∀ x c, X.env.cells.lookup x = some c → c ≠ b) ∧ ∀ p ∈ X.pn ++ pins, p.1 ≠ b
theorem Inv.fpOk {X : Cx} {pins : List (Addr × Obj)} {σ : St} {H H' : Hp} {s : Shared} {b : Addr} (I : Inv X pins σ H s) (hb : s.heap.objs.size ≤ b) (hn : H' b = none) : FpOk X pins H' b := by
  refine ⟨hn, Nat.ne_of_gt (Nat.lt_of_lt_of_le I.lt hb), I.nofs hb, .inr (Nat.le_trans I.sz hb), fun x c e z => ?_, fun p hp z => ?_⟩
  · obtain ⟨v, q⟩ := I.cell x c e
    exact absurd (Nat.lt_of_lt_of_le q.lt (by rw [z]; exact hb)) (Nat.lt_irrefl _)
  · exact absurd (Nat.lt_of_lt_of_le (Heap.lt_size (I.pin p hp).1) (by rw [z]; exact hb)) (Nat.lt_irrefl _)
structure Turn (P : Program) (w : World) (K : PySem.W.Frag) (tg : Expr) (J : It) (fp : List Addr) (it : Addr) (tn : Nat → Heap → Prop) : Prop where
  mem : it ∈ fp
  obj : ∀ i h, tn i h → ∀ b ∈ fp, ∃ o, h.get? b = some o ∧ ∀ v, o.data ≠ .cell v
  keep : ∀ i h h', tn i h → (∀ b ∈ fp, ∀ o, h.get? b = some o → h'.get? b = some o) → tn i h'
  item : ∀ (X : Cx), X.prog = P → X.w = w → X.K = K → X.calm = true → ∀ (i : Nat) (pins : List (Addr × Obj)) (s : Shared) (σ : St) (H : Hp) (E : Value → Shared → Prop), Inv X pins σ H s → (∀ b ∈ fp, FpOk X pins H b) → tn i s.heap → J.go i H →
    wpAny (model P w) X.A (pyNext (.ref it)) (fun r s1 => ∃ u, r = some u ∧
      wpAny (model P w) X.A (letOwnedTupleGo tg (.ref it) u) (fun _ s2 => ∃ x H', Inv X pins σ H' s2 ∧ RelV x u ∧ J.yld i H x H' ∧ tn (i + 1) s2.heap ∧ ∀ b ∈ fp, H' b = none) E s1) E s
  done : ∀ (X : Cx), X.prog = P → X.w = w → X.K = K → X.calm = true → ∀ (i : Nat) (pins : List (Addr × Obj)) (s : Shared) (σ : St) (H : Hp) (E : Value → Shared → Prop), Inv X pins σ H s → (∀ b ∈ fp, FpOk X pins H b) → tn i s.heap → J.stop i H →
    wpAny (model P w) X.A (pyNext (.ref it)) (fun r s1 => r = none ∧ Inv X pins σ H s1) E s
  self : ∀ (A : Around) (i : Nat) (s : Shared) (Q : Value → Shared → Prop) (E : Value → Shared → Prop), tn i s.heap → Q (.ref it) s → wpAny (model P w) A (pyIter (.ref it)) Q E s
abbrev TI := St → Hp → (It → Hp → Prop) → Prop
def PIE (X : Cx) (pins : List (Addr × Obj)) (σ : St) (tg : Expr) (R : It → Hp → Prop) (itv : Value) (s2 : Shared) : Prop :=
  ∃ (it : Addr) (fp : List Addr) (tn : Nat → Heap → Prop) (J : It) (H' : Hp), itv = .ref it ∧ Inv X pins σ H' s2 ∧ Turn X.prog X.w X.K tg J fp it tn ∧ tn 0 s2.heap ∧ (∀ b ∈ fp, FpOk X pins H' b) ∧ R J H'
def PI (X : Cx) (tg iter : Expr) (wi : TI) : Prop :=
  ∀ (pins : List (Addr × Obj)) (s : Shared) (σ : St) (H : Hp) (R : It → Hp → Prop), Inv X pins σ H s → wi σ H R →
    wpAny (model X.prog X.w) X.A (eval iter X.env) (fun v s1 => wpAny (model X.prog X.w) X.A (pyIter v) (PIE X pins σ tg R) X.xe s1) X.xe s
theorem go_of {M : Model} {A : Around} {E : Value → Shared → Prop} {s : Shared} {tg : Expr} {it : Addr} {u : Value} {o : Obj} {n : String} {vs : Array Value} {Q : Unit → Shared → Prop} (ho : s.heap.get? it = some o) (hc : o.cls = .type n) (hd : o.data = .fields vs)
    (hn : ["enumerate", "zip", "dict_itemiterator", "dict_reverseitemiterator", "odict_iterator", "itertools.zip_longest", "itertools.pairwise"].contains n = false) (hQ : Q () s) : wpAny M A (letOwnedTupleGo tg (.ref it) u) Q E s := by
  unfold letOwnedTupleGo
  cases tg <;> first
    | exact wpAny_pure hQ
    | (cases u <;> first
        | exact wpAny_pure hQ
        | (refine wpAny_bind (wpAny_load ho ?_)
           rw [hc, hd]
           show wpAny M A (if (["enumerate", "zip", "dict_itemiterator", "dict_reverseitemiterator", "odict_iterator", "itertools.zip_longest", "itertools.pairwise"].contains n && vs[0]? == some (rawInt _)) = true then _ else _) Q E s
           rw [if_neg (by intro h; rw [hn, Bool.false_and] at h; cases h)]
           exact wpAny_pure hQ))
def Itl (K : PySem.W.Frag) (a : Addr) : It :=
  ⟨fun i H => ∃ xs x, SqL K H a xs ∧ xs[i]? = some x, fun i H x H' => H' = H ∧ ∀ xs, SqL K H a xs → xs[i]? = some x, fun i H => ∃ xs, SqL K H a xs ∧ xs.length ≤ i⟩
def Itt (K : PySem.W.Frag) (a : Addr) : It :=
  ⟨fun i H => ∃ xs x, SqT K H a xs ∧ xs[i]? = some x, fun i H x H' => H' = H ∧ ∀ xs, SqT K H a xs → xs[i]? = some x, fun i H => ∃ xs, SqT K H a xs ∧ xs.length ≤ i⟩
def Itr (lo : Int) (n : Nat) : It := ⟨fun i _ => i < n, fun i H x H' => H' = H ∧ x = .int (lo + i), fun i _ => n ≤ i⟩
theorem turn_list {P : Program} {w : World} {K : PySem.W.Frag} {tg : Expr} (a it : Addr) : Turn P w K tg (Itl K a) [it] it (fun i h => h.IsListIter it a i) where
  mem := by simp
  obj := fun i h st b hb => by
    have e : b = it := by simpa using hb
    subst e
    obtain ⟨o, e, c, d⟩ := st
    exact ⟨o, e, fun v z => by rw [d] at z; cases z⟩
  keep := fun i h h' st k => st.at fun o e => k it (by simp) o e
  item := by
    intro X hP hw hK hc i pins s σ H E I hf st hg
    subst hP hw hK
    obtain ⟨xs, x, hq, hx⟩ := hg
    obtain ⟨its, rv, p, hz⟩ := I.list hq
    obtain ⟨u, hu, ru⟩ := rv.get hx
    obtain ⟨f0, f1, f2, f3, f4, f5⟩ := hf it (by simp)
    refine wpAny_pyNext_list_item st p.isList (x := u) (by simpa using hu) fun h' st' sb => ?_
    have I1 : Inv X pins σ H { s with heap := h' } := I.turned (t' := s.toks) (fun b o hb e => (sb.2 b hb).trans e) f0 f1 f3 f4 f5
    obtain ⟨o, e, c, d⟩ := id st'
    exact ⟨u, rfl, go_of (s := { s with heap := h' }) e c d (by decide) ⟨x, H, I1, ru, ⟨rfl, fun ys hy => by rw [I.list_inj hy hq]; exact hx⟩, st', fun b hb => (hf b hb).1⟩⟩
  done := by
    intro X hP hw hK hc i pins s σ H E I hf st hg
    subst hP hw hK
    obtain ⟨xs, hq, hx⟩ := hg
    obtain ⟨its, rv, p, hz⟩ := I.list hq
    obtain ⟨f0, f1, f2, f3, f4, f5⟩ := hf it (by simp)
    have hl := rv.length
    exact wpAny_pyNext_list_end (I.ok.hd hc) st p.isList (by simp; omega) fun h' eb => ⟨rfl, I.turned (t' := s.toks) (fun b o hb e => eb b o hb e) f0 f1 f3 f4 f5⟩
  self := fun _ _ _ _ _ st h => wpAny_pyIter_listiter st h
theorem turn_tuple {P : Program} {w : World} {K : PySem.W.Frag} {tg : Expr} (a it : Addr) : Turn P w K tg (Itt K a) [it] it (fun i h => h.IsTupleIter it a i) where
  mem := by simp
  obj := fun i h st b hb => by
    have e : b = it := by simpa using hb
    subst e
    obtain ⟨o, e, c, d⟩ := st
    exact ⟨o, e, fun v z => by rw [d] at z; cases z⟩
  keep := fun i h h' st k => st.at fun o e => k it (by simp) o e
  item := by
    intro X hP hw hK hc i pins s σ H E I hf st hg
    subst hP hw hK
    obtain ⟨xs, x, hq, hx⟩ := hg
    obtain ⟨its, rv, p, hz⟩ := I.tuple hq
    obtain ⟨u, hu, ru⟩ := rv.get hx
    obtain ⟨f0, f1, f2, f3, f4, f5⟩ := hf it (by simp)
    refine wpAny_pyNext_tuple_item st (show s.heap.IsTuple a its.toArray from p) (x := u) (by simpa using hu) fun h' st' sb => ?_
    have I1 : Inv X pins σ H { s with heap := h' } := I.turned (t' := s.toks) (fun b o hb e => (sb.2 b hb).trans e) f0 f1 f3 f4 f5
    obtain ⟨o, e, c, d⟩ := id st'
    exact ⟨u, rfl, go_of (s := { s with heap := h' }) e c d (by decide) ⟨x, H, I1, ru, ⟨rfl, fun ys hy => by rw [I.tuple_inj hy hq]; exact hx⟩, st', fun b hb => (hf b hb).1⟩⟩
  done := by
    intro X hP hw hK hc i pins s σ H E I hf st hg
    subst hP hw hK
    obtain ⟨xs, hq, hx⟩ := hg
    obtain ⟨its, rv, p, hz⟩ := I.tuple hq
    obtain ⟨f0, f1, f2, f3, f4, f5⟩ := hf it (by simp)
    have hl := rv.length
    exact wpAny_pyNext_tuple_end (I.ok.hd hc) st (show s.heap.IsTuple a its.toArray from p) (by simp; omega) fun h' eb => ⟨rfl, I.turned (t' := s.toks) (fun b o hb e => eb b o hb e) f0 f1 f3 f4 f5⟩
  self := fun _ _ _ _ _ st h => wpAny_pyIter_tupleiter st h
theorem turn_range {P : Program} {w : World} {K : PySem.W.Frag} {tg : Expr} (it : Addr) (lo : Int) (n : Nat) : Turn P w K tg (Itr lo n) [it] it (fun i h => IsRangeIter h it (lo + (i : Nat) * 1) ((n : Int) - (i : Nat)) 1) where
  mem := by simp
  obj := fun i h st b hb => by
    have e : b = it := by simpa using hb
    subst e
    exact ⟨_, st, fun v z => by
      have z' : Data.fields _ = Data.cell v := z
      cases z'⟩
  keep := fun i h h' st k => k it (by simp) _ st
  item := by
    intro X hP hw hK hc i pins s σ H E I hf st hg
    subst hP hw hK
    obtain ⟨f0, f1, f2, f3, f4, f5⟩ := hf it (by simp)
    have W := Walks.range (prog := X.prog) (w := X.w) (I.ok.hd hc) it lo 1 n
    refine W.item i s _ _ hg st fun v h' tk hv st' kk => ?_
    obtain ⟨t, rfl⟩ := hv
    have I1 : Inv X pins σ H { s with heap := h', toks := tk } := I.turned (fun b o hb e => kk b o (by simpa using hb) e) f0 f1 f3 f4 f5
    refine ⟨_, rfl, go_of (s := { s with heap := h', toks := tk }) (n := "range_iterator") st' rfl rfl (by decide) ⟨.int (lo + i), H, I1, ⟨t, ?_⟩, ⟨rfl, rfl⟩, st', fun b hb => (hf b hb).1⟩⟩
    rw [Int.mul_one]
  done := by
    intro X hP hw hK hc i pins s σ H E I hf st hg
    subst hP hw hK
    obtain ⟨f0, f1, f2, f3, f4, f5⟩ := hf it (by simp)
    exact wpAny_pyNext_range_end (I.ok.hd hc) st (by have : n ≤ i := hg; omega) fun h' eb => ⟨rfl, I.turned (t' := s.toks) (fun b o hb e => eb b o hb e) f0 f1 f3 f4 f5⟩
  self := fun _ _ _ _ _ st h => wpAny_pyIter_rangeiter st h
end L2
namespace L2
open PySem PySem.Spec PyProof.Rows
section
variable {X : Cx} {tg : Expr}
def iList (K : PySem.W.Frag) (tl : TE) : TI := fun σ H R => tl σ H fun x H1 => ∃ a, x = .ref a ∧ (∃ xs, SqL K H1 a xs) ∧ R (Itl K a) H1
def iTup (K : PySem.W.Frag) (tl : TE) : TI := fun σ H R => tl σ H fun x H1 => ∃ a, x = .ref a ∧ (∃ xs, SqT K H1 a xs) ∧ R (Itt K a) H1
theorem pi_list {l : Expr} {tl : TE} (hl : PE X l tl) : PI X tg l (iList X.K tl) := by
  intro pins s σ H R I h
  refine thn (hl pins s σ H _ I h) fun v s1 ⟨x, H1, I1, r1, q1⟩ => ?_
  obtain ⟨a, e, ⟨xs, hq⟩, q⟩ := q1
  subst e
  cases r1
  obtain ⟨its, rv, p, hz⟩ := I1.list hq
  refine wpAny_pyIter_list p.isList ?_
  refine ⟨s1.heap.objs.size, [s1.heap.objs.size], _, _, H1, rfl, I1.kept (t' := s1.toks) fun b o e => Heap.get?_push_of_some _ e, turn_list a _, ⟨_, Heap.get?_push_size _ rfl, rfl, rfl⟩, fun b hb => ?_, q⟩
  have e : b = s1.heap.objs.size := by simpa using hb
  subst e
  exact I1.fpOk (Nat.le_refl _) (I1.hok.fresh (Nat.le_refl _))
theorem pi_tup {l : Expr} {tl : TE} (hl : PE X l tl) : PI X tg l (iTup X.K tl) := by
  intro pins s σ H R I h
  refine thn (hl pins s σ H _ I h) fun v s1 ⟨x, H1, I1, r1, q1⟩ => ?_
  obtain ⟨a, e, ⟨xs, hq⟩, q⟩ := q1
  subst e
  cases r1
  obtain ⟨its, rv, p, hz⟩ := I1.tuple hq
  refine wpAny_pyIter_tuple (show s1.heap.IsTuple a its.toArray from p) ?_
  refine ⟨s1.heap.objs.size, [s1.heap.objs.size], _, _, H1, rfl, I1.kept (t' := s1.toks) fun b o e => Heap.get?_push_of_some _ e, turn_tuple a _, ⟨_, Heap.get?_push_size _ rfl, rfl, rfl⟩, fun b hb => ?_, q⟩
  have e : b = s1.heap.objs.size := by simpa using hb
  subst e
  exact I1.fpOk (Nat.le_refl _) (I1.hok.fresh (Nat.le_refl _))
theorem range_it {pins : List (Addr × Obj)} {σ : St} {H : Hp} {s : Shared} {R : It → Hp → Prop} {E : Value → Shared → Prop} {lo hi : Int} {t u v : Tok} {tk : Nat} (I : Inv X pins σ H s) (h1 : -(2 ^ 62) ≤ lo) (h2 : lo < 2 ^ 62) (h3 : -(2 ^ 62) ≤ hi) (h4 : hi < 2 ^ 62)
    (q : R (Itr lo (hi - lo).toNat) H) : wpAny (model X.prog X.w) X.A (pyIter (.ref s.heap.objs.size)) (PIE X pins σ tg R) E { s with heap := s.heap.push { cls := .type "range", data := .fields #[.int lo t, .int hi u, .int 1 v] }, toks := tk } := by
  refine wpAny_pyIter_range (IsRange.new ..) (small_one h1 h2 h3 h4) ?_
  have I1 : Inv X pins σ H { s with heap := s.heap.push { cls := .type "range", data := .fields #[.int lo t, .int hi u, .int 1 v] }, toks := tk } := I.kept fun b o e => Heap.get?_push_of_some _ e
  refine ⟨(s.heap.push { cls := .type "range", data := .fields #[.int lo t, .int hi u, .int 1 v] }).objs.size, [(s.heap.push { cls := .type "range", data := .fields #[.int lo t, .int hi u, .int 1 v] }).objs.size], _, _, H, rfl,
    I1.kept (t' := tk) fun b o e => Heap.get?_push_of_some _ e, turn_range _ lo (hi - lo).toNat, ?_, fun b hb => ?_, q⟩
  · have e1 : lo + ((0 : Nat) : Int) * 1 = lo := by simp
    have e2 : (((hi - lo).toNat : Nat) : Int) - ((0 : Nat) : Int) = Builtin.Range.rangeSize lo hi 1 := by rw [rangeSize_one]; split <;> omega
    show IsRangeIter _ _ (lo + ((0 : Nat) : Int) * 1) ((((hi - lo).toNat : Nat) : Int) - ((0 : Nat) : Int)) 1
    rw [e1, e2]
    exact Heap.get?_push_size _ rfl
  · have e : b = (s.heap.push { cls := .type "range", data := .fields #[.int lo t, .int hi u, .int 1 v] }).objs.size := by simpa using hb
    subst e
    exact I1.fpOk (Nat.le_refl _) (I1.hok.fresh (Nat.le_refl _))
def iRng1 (ta : TA) : TI := fun σ H R => ta σ H fun vs H1 => ∃ j : Int, vs = [.int j] ∧ -(2 ^ 62) ≤ j ∧ j < 2 ^ 62 ∧ R (Itr 0 j.toNat) H1
theorem pi_range1 {a : Expr} {ta : TA} {p pos : Pos} (hg : Gl X "range") (hm : X.mg "range" = none) (ha : PA X [a] ta) (hs : starEach [a] X.env = [(false, eval a X.env)] := by rfl) : PI X tg (.Call (.Name "range" p) [a] [] pos) (iRng1 ta) := by
  intro pins s σ H R I h
  refine Call_ (ld_blt I hg hm boot_range (PyProof.Rows.callWith_type1 (thn (ha pos pins s σ H _ I h) fun us s1 ⟨vs, H1, I1, r1, q1⟩ => ?_) hs rfl))
  obtain ⟨j, e, q1, q2, q⟩ := q1
  subst e
  cases r1 with
  | cons r rr =>
    cases rr
    obtain ⟨t, rfl⟩ := r
    exact call_range_1 (range_it I1 (by omega) (by omega) q1 q2 (by simpa using q))
def tFor (wi : TI) (g : TG) (tb : TS) : TS := fun D σ H => wi σ H fun J H1 => ∃ W : Nat → Nat → St → Hp → Prop, (∃ m, W 0 m σ H1) ∧ ∀ i m σ H, W i m σ H →
  (J.stop i H ∧ D.nx σ H) ∨ (J.go i H ∧ ∃ N : St → Hp → Prop, (∀ σ' H', N σ' H' → ∃ m', m' < m ∧ W (i + 1) m' σ' H') ∧ ∀ x H', J.yld i H x H' → g x σ H' fun σ2 H2 => tb { D with nx := N, ct := N, bk := D.nx } σ2 H2)
def pinsAt (fp : List Addr) (h : Heap) : List (Addr × Obj) := fp.filterMap fun b => (h.get? b).map fun o => (b, o)
theorem mem_pinsAt {fp : List Addr} {h : Heap} {b : Addr} {o : Obj} (hb : b ∈ fp) (e : h.get? b = some o) : (b, o) ∈ pinsAt fp h := List.mem_filterMap.mpr ⟨b, hb, by rw [e]; rfl⟩
theorem of_pinsAt {fp : List Addr} {h : Heap} {p : Addr × Obj} (hp : p ∈ pinsAt fp h) : p.1 ∈ fp ∧ h.get? p.1 = some p.2 := by
  obtain ⟨b, hb, e⟩ := List.mem_filterMap.mp hp
  cases q : h.get? b with
  | none => rw [q] at e; cases e
  | some o =>
    rw [q] at e
    have e' : (b, o) = p := Option.some.inj e
    subst e'
    exact ⟨hb, q⟩
theorem Inv.pinned {pins : List (Addr × Obj)} {σ : St} {H : Hp} {s : Shared} {fp : List Addr} (I : Inv X pins σ H s) (hf : ∀ b ∈ fp, FpOk X pins H b) (ho : ∀ b ∈ fp, ∃ o, s.heap.get? b = some o ∧ ∀ v, o.data ≠ .cell v) : Inv X (pins ++ pinsAt fp s.heap) σ H s :=
  I.pins_of fun p hp => (List.mem_append.mp hp).elim (fun z => I.pin p (List.mem_append_right _ z)) fun z => by
    obtain ⟨hb, e⟩ := of_pinsAt z
    obtain ⟨f0, f1, f2, _⟩ := hf p.1 hb
    obtain ⟨o, e', d⟩ := ho p.1 hb
    rw [e] at e'; cases e'
    exact ⟨e, f0, f1, f2, d⟩
theorem Inv.unpinned {pins pl : List (Addr × Obj)} {σ : St} {H : Hp} {s : Shared} (I : Inv X (pins ++ pl) σ H s) : Inv X pins σ H s := I.pins_of fun p hp => I.pin p (List.mem_append_right _ (List.mem_append_left _ hp))
theorem ps_for {iter : Expr} {body : List Stmt} {wi : TI} {g : TG} {tb : TS} {pos : Pos} (hp : PassesOwn (model X.prog X.w) X.A X.env X.xe) (hc : X.calm = true) (hi : PI X tg iter wi) (hg : PG X tg g) (hb : PSs X body tb)
    (hs : ∀ x, foldedSetIterable iter X.env x = pure x := by intro _; rfl) : PS X (.For tg iter body [] pos) (tFor wi g tb) := by
  intro pins s σ H D I h
  refine wpAny_For (thn (hi pins s σ H _ I h) fun v s1 h1 => thn h1 fun itv s2 h2 => ?_) hs
  obtain ⟨it, fp, tn, J, H2, e, I2, T, st2, f2, W, ⟨m0, w0⟩, turn⟩ := h2
  subst e
  have stat : ∀ {H' : Hp}, (∀ b ∈ fp, H' b = none) → ∀ b ∈ fp, FpOk X pins H' b := fun hn b hb => ⟨hn b hb, (f2 b hb).2⟩
  refine codeAny_forLoop_any (fun n s' => ∃ i σ' H', Inv X pins σ' H' s' ∧ tn i s'.heap ∧ (∀ b ∈ fp, H' b = none) ∧ W i n σ' H') ?_ m0 ⟨0, σ, H2, I2, st2, fun b hb => (f2 b hb).1, w0⟩
  rintro n s3 ⟨i, σ3, H3, I3, st3, fr3, w3⟩
  rcases turn i n σ3 H3 w3 with ⟨stop, qn⟩ | ⟨go, N, hN, step⟩
  · refine wpAny_passesOwn hp (thn (T.done X rfl rfl rfl hc i pins s3 σ3 H3 X.xe I3 (stat fr3) st3 stop) fun r s4 ⟨hr, I4⟩ => ?_)
    subst hr
    exact wpAny_execs_nil ⟨σ3, H3, I4, qn⟩
  · refine wpAny_passesOwn hp (thn (T.item X rfl rfl rfl hc i pins s3 σ3 H3 X.xe I3 (stat fr3) st3 go) fun r s4 ⟨u, hr, h4⟩ => ?_)
    subst hr
    refine wpAny_passesOwn hp (thn h4 fun _ s5 ⟨x, H5, I5, r5, y5, st5, fr5⟩ => ?_)
    have I5' := I5.pinned (stat fr5) (T.obj _ _ st5)
    refine wpAny_passesOwn hp (thn (hg _ s5 σ3 H5 x u _ I5' r5 (step x H5 y5)) fun _ s6 ⟨σ6, H6, I6, q6⟩ => ?_)
    refine wpAny_passesOwn hp (thn (hb _ s6 σ6 H6 _ I6 q6) fun f s7 q7 => ?_)
    have again : ∀ {σ7 : St} {H7 : Hp}, Inv X (pins ++ pinsAt fp s5.heap) σ7 H7 s7 → N σ7 H7 → ∃ m, m < n ∧ ∃ i σ' H', Inv X pins σ' H' s7 ∧ tn i s7.heap ∧ (∀ b ∈ fp, H' b = none) ∧ W i m σ' H' := fun {σ7 H7} I7 n7 => by
      obtain ⟨m', hm, w7⟩ := hN σ7 H7 n7
      refine ⟨m', hm, i + 1, σ7, H7, I7.unpinned, T.keep _ _ _ st5 fun b hb o e => (I7.pin (b, o) (List.mem_append_right _ (List.mem_append_right _ (mem_pinsAt hb e)))).1, fun b hb => ?_, w7⟩
      obtain ⟨o, e, d⟩ := T.obj _ _ st5 b hb
      exact (I7.pin (b, o) (List.mem_append_right _ (List.mem_append_right _ (mem_pinsAt hb e)))).2.1
    cases f with
    | next => obtain ⟨σ7, H7, I7, n7⟩ := q7; exact again I7 n7
    | cont => obtain ⟨σ7, H7, I7, n7⟩ := q7; exact again I7 n7
    | brk => obtain ⟨σ7, H7, I7, q7⟩ := q7; exact ⟨σ7, H7, I7.unpinned, q7⟩
    | ret v => obtain ⟨x7, σ7, H7, I7, r7, q7⟩ := q7; exact ⟨x7, σ7, H7, I7.unpinned, r7, q7⟩
end
end L2
namespace L2
open PySem PySem.Spec PyProof.Rows
abbrev R2 := V → V → Hp → VK → Prop
def OpR (X : Cx) (f : Value → Value → Sem Value) (r : R2) : Prop :=
  ∀ (pins : List (Addr × Obj)) (s : Shared) (σ : St) (H : Hp) (x y : V) (v u : Value) (Q : VK), Inv X pins σ H s → RelV x v → RelV y u → r x y H Q →
    wpAny (model X.prog X.w) X.A (f v u) (EP X pins σ Q) X.xe s
def CallR (X : Cx) (f : Value) (r : List V → Hp → VK → Prop) : Prop :=
  ∀ (pins : List (Addr × Obj)) (s : Shared) (σ : St) (H : Hp) (xs : List V) (us : List Value) (Q : VK), Inv X pins σ H s → Vals xs us → r xs H Q →
    wpAny (model X.prog X.w) X.A (call f us) (EP X pins σ Q) X.xe s
def TruR (X : Cx) (r : V → Hp → (Bool → Hp → Prop) → Prop) : Prop :=
  ∀ (pins : List (Addr × Obj)) (s : Shared) (σ : St) (H : Hp) (x : V) (v : Value) (Q : Bool → Hp → Prop), Inv X pins σ H s → RelV x v → r x H Q →
    wpAny (model X.prog X.w) X.A (truthy v) (TP X pins σ Q) X.xe s
def tOp (r : R2) (ta tb : TE) : TE := fun σ H Q => ta σ H fun x H1 => tb σ H1 fun y H2 => r x y H2 Q
def rI (C : Int → Int → Prop) (g : Int → Int → V) : R2 := fun x y H Q => ∃ i j, x = .int i ∧ y = .int j ∧ C i j ∧ Q (g i j) H
def rI0 (g : Int → Int → V) : R2 := fun x y H Q => ∃ i j, x = .int i ∧ y = .int j ∧ Q (g i j) H
section
variable {X : Cx} {a b c : Expr} {ta tb tc : TE} {pos : Pos}
theorem binT (ha : PE X a ta) (hb : PE X b tb) {pins : List (Addr × Obj)} {s : Shared} {σ : St} {H : Hp} {R : V → V → Hp → Prop} (I : Inv X pins σ H s)
    (h : ta σ H fun x H1 => tb σ H1 fun y H2 => R x y H2) {Q : Value → Shared → Prop} {f : Value → Value → Sem Value}
    (hf : ∀ v u s2 x y H2, Inv X pins σ H2 s2 → RelV x v → RelV y u → R x y H2 → wpAny (model X.prog X.w) X.A (f v u) Q X.xe s2) :
    wpAny (model X.prog X.w) X.A (eval a X.env) (fun v s₁ => wpAny (model X.prog X.w) X.A (eval b X.env) (fun u s₂ => wpAny (model X.prog X.w) X.A (f v u) Q X.xe s₂) X.xe s₁) X.xe s := by
  refine thn (ha pins s σ H _ I h) fun v s1 ⟨x, H1, I1, r1, q1⟩ => ?_
  refine thn (hb pins s1 σ H1 _ I1 q1) fun u s2 ⟨y, H2, I2, r2, q2⟩ => ?_
  exact hf v u s2 x y H2 I2 r1 r2 q2
theorem pe_op {op : Operator} {r : R2} (ho : OpR X (binaryOp op) r) (ha : PE X a ta) (hb : PE X b tb) : PE X (.BinOp a op b pos) (tOp r ta tb) := by
  intro pins s σ H Q I h
  exact wpAny_BinOp (binT ha hb I h fun v u s2 x y H2 I2 rx ry q => ho pins s2 σ H2 x y v u Q I2 rx ry q)
theorem opI {f : Value → Value → Sem Value} {C : Int → Int → Prop} {g : Int → Int → Int}
    (rule : ∀ (i j : Int) (t u : Tok) (s : Shared) (Q : Value → Shared → Prop) (E : Value → Shared → Prop), C i j → Q (.int (g i j) s.toks) { s with toks := s.toks + 1 } → wpAny (model X.prog X.w) X.A (f (.int i t) (.int j u)) Q E s) :
    OpR X f (rI C fun i j => .int (g i j)) := by
  intro pins s σ H x y v u Q I rx ry h
  obtain ⟨i, j, rfl, rfl, hc, q⟩ := h
  obtain ⟨t, rfl⟩ := rx
  obtain ⟨t', rfl⟩ := ry
  exact rule i j t t' s _ _ hc ⟨.int (g i j), H, I.tok _, ⟨_, rfl⟩, q⟩
theorem opI0 {f : Value → Value → Sem Value} {g : Int → Int → Int}
    (rule : ∀ (i j : Int) (t u : Tok) (s : Shared) (Q : Value → Shared → Prop) (E : Value → Shared → Prop), Q (.int (g i j) s.toks) { s with toks := s.toks + 1 } → wpAny (model X.prog X.w) X.A (f (.int i t) (.int j u)) Q E s) :
    OpR X f (rI0 fun i j => .int (g i j)) := by
  intro pins s σ H x y v u Q I rx ry h
  obtain ⟨i, j, rfl, rfl, q⟩ := h
  obtain ⟨t, rfl⟩ := rx
  obtain ⟨t', rfl⟩ := ry
  exact rule i j t t' s _ _ ⟨.int (g i j), H, I.tok _, ⟨_, rfl⟩, q⟩
theorem opB0 {f : Value → Value → Sem Value} {g : Int → Int → Bool}
    (rule : ∀ (i j : Int) (t u : Tok) (s : Shared) (Q : Value → Shared → Prop) (E : Value → Shared → Prop), Q (.bool (g i j)) s → wpAny (model X.prog X.w) X.A (f (.int i t) (.int j u)) Q E s) :
    OpR X f (rI0 fun i j => .bl (g i j)) := by
  intro pins s σ H x y v u Q I rx ry h
  obtain ⟨i, j, rfl, rfl, q⟩ := h
  obtain ⟨t, rfl⟩ := rx
  obtain ⟨t', rfl⟩ := ry
  exact rule i j t t' s _ _ ⟨.bl (g i j), H, I, rfl, q⟩
def CDiv (i j : Int) : Prop := 0 < j ∧ j < 1073741824
def CMul (i j : Int) : Prop := (-(2 ^ 64) < i ∧ i < 2 ^ 64) ∨ (-(2 ^ 64) < j ∧ j < 2 ^ 64)
theorem CMul.ok {i j : Int} (h : CMul i j) : IntMulOk i j := by
  rcases h with ⟨h1, h2⟩ | ⟨h1, h2⟩
  · exact .of_left (intBits_le_64 h1 h2)
  · exact .of_right (intBits_le_64 h1 h2)
theorem op_add : OpR X (binaryOp .Add) (rI0 fun i j => .int (i + j)) := opI0 fun _ _ _ _ _ _ _ q => add_int q
theorem op_mul : OpR X (binaryOp .Mult) (rI CMul fun i j => .int (i * j)) := opI fun _ _ _ _ _ _ _ hc q => mul_int q hc.ok
theorem op_fdiv : OpR X (binaryOp .FloorDiv) (rI CDiv fun i j => .int (i / j)) := opI fun i j _ _ _ _ _ hc q => by
  have h1 : (0 : Int) < j := hc.1
  have h2 : j < 1073741824 := hc.2
  exact floordiv_int (by omega) (by rw [Int.fdiv_eq_ediv_of_nonneg i (by omega)]; exact q) (.inl (PyProof.noPylong_small (by omega)))
theorem op_mod : OpR X (binaryOp .Mod) (rI (fun _ j => 0 < j) fun i j => .int (i % j)) := opI fun i j _ _ _ _ _ hc q => by
  have h1 : (0 : Int) < j := hc
  exact mod_int' (by omega) (by rw [Int.fmod_eq_emod_of_nonneg i (by omega)]; exact q)
end
section
variable {X : Cx} {a b c : Expr} {ta tb tc : TE} {pos : Pos}
theorem fin_bl {pins : List (Addr × Obj)} {σ : St} {H : Hp} {s : Shared} {Q : VK} {k k' : Bool} (I : Inv X pins σ H s) (q : Q (.bl k) H) (e : k = k') : EP X pins σ Q (.bool k') s := by
  subst e
  exact ⟨.bl k, H, I, rfl, q⟩
theorem op_lt : OpR X (compareOp .Lt) (rI0 fun i j => .bl (decide (i < j))) := opB0 fun _ _ _ _ _ _ _ q => lt_int q
theorem op_le : OpR X (compareOp .LtE) (rI0 fun i j => .bl (decide (i ≤ j))) := opB0 fun _ _ _ _ _ _ _ q => le_int q
theorem op_gt : OpR X (compareOp .Gt) (rI0 fun i j => .bl (decide (j < i))) := opB0 fun _ _ _ _ _ _ _ q => gt_int q
theorem op_isN : OpR X (compareOp .Is) (fun x y H Q => y = .non ∧ Q (.bl (decide (x = .non))) H) := by
  intro pins s σ H x y v u Q I rx ry h
  obtain ⟨rfl, q⟩ := h
  cases ry
  refine is_none_gen (fin_bl I q ?_)
  cases x <;> first
    | (cases rx; rfl)
    | (obtain ⟨t, rfl⟩ := rx; rfl)
theorem op_notN : OpR X (compareOp .IsNot) (fun x y H Q => y = .non ∧ Q (.bl (!decide (x = .non))) H) := by
  intro pins s σ H x y v u Q I rx ry h
  obtain ⟨rfl, q⟩ := h
  cases ry
  refine isnot_none_gen (fin_bl I q ?_)
  cases x <;> first
    | (cases rx; rfl)
    | (obtain ⟨t, rfl⟩ := rx; rfl)
theorem OpR.or {f : Value → Value → Sem Value} {r r' : R2} (h : OpR X f r) (h' : OpR X f r') : OpR X f (fun x y H Q => r x y H Q ∨ r' x y H Q) := by
  intro pins s σ H x y v u Q I rx ry q
  rcases q with q | q
  · exact h pins s σ H x y v u Q I rx ry q
  · exact h' pins s σ H x y v u Q I rx ry q
theorem nomark (b : Expr) {op : CmpOp} (h : op ≠ .In := by decide) (h2 : op ≠ .NotIn := by decide) : behindInMarks op b = false := by
  have e1 : (op == CmpOp.In) = false := by cases op <;> first | rfl | exact absurd rfl h
  have e2 : (op == CmpOp.NotIn) = false := by cases op <;> first | rfl | exact absurd rfl h2
  cases b <;> simp [behindInMarks, e1, e2]
theorem pe_cmpR {op : CmpOp} {r : R2} (ho : OpR X (compareOp op) r) (ha : PE X a ta) (hb : PE X b tb) (hm : behindInMarks op b = false) : PE X (.Compare a [op] [b] pos) (tOp r ta tb) := by
  intro pins s σ H Q I h
  exact wpAny_Compare1 (binT ha hb I h fun v u s2 x y H2 I2 rx ry q => ho pins s2 σ H2 x y v u Q I2 rx ry q) hm
def tTest (t : TE) : TT := fun σ H Q => t σ H fun x H' => ∃ k, x = .bl k ∧ Q k H'
theorem pt_cmpR {op : CmpOp} {r : R2} (ho : OpR X (compareOp op) r) (ha : PE X a ta) (hb : PE X b tb) (hm : behindInMarks op b = false) : PT X (.Compare a [op] [b] pos) (tTest (tOp r ta tb)) := by
  intro pins s σ H Q I h
  refine wpAny_isTrue_Compare1 (thn (ha pins s σ H _ I h) fun v s1 ⟨x, H1, I1, r1, q1⟩ => thn (hb pins s1 σ H1 _ I1 q1) fun u s2 ⟨y, H2, I2, r2, q2⟩ =>
    thn (ho pins s2 σ H2 x y v u _ I2 r1 r2 q2) fun c s3 ⟨z, H3, I3, r3, k, e, q3⟩ => ?_) hm
  subst e
  cases r3
  exact wpAny_truthy_bool ⟨H3, I3, q3⟩
def tChain (r r' : R2) (ta tb tc : TE) : TE := fun σ H Q => ta σ H fun x H1 => tb σ H1 fun y H2 => r x y H2 fun z H3 => ∃ k, z = .bl k ∧
  (if k = true then tc σ H3 fun w' H4 => r' y w' H4 Q else Q (.bl false) H3)
theorem pe_chain {op op' : CmpOp} {r r' : R2} (ho : OpR X (compareOp op) r) (ho' : OpR X (compareOp op') r') (ha : PE X a ta) (hb : PE X b tb) (hc : PE X c tc)
    (hm : lastMarks [op, op'] [b, c] = false := by with_unfolding_all rfl) : PE X (.Compare a [op, op'] [b, c] pos) (tChain r r' ta tb tc) := by
  intro pins s σ H Q I h
  refine Compare_chain (thn (ha pins s σ H _ I h) fun v s1 ⟨x, H1, I1, r1, q1⟩ => chain_link (thn (hb pins s1 σ H1 _ I1 q1) fun u s2 ⟨y, H2, I2, r2, q2⟩ =>
    thn (ho pins s2 σ H2 x y v u _ I2 r1 r2 q2) fun d s3 ⟨z, H3, I3, r3, k, e, q3⟩ => ?_)) hm
  subst e
  cases r3
  refine wpAny_truthy_bool ?_
  cases k with
  | false => exact ite_ff ⟨.bl false, H3, I3, rfl, q3⟩
  | true => exact ite_tt (chain_last (thn (hc pins s3 σ H3 _ I3 q3) fun w' s4 ⟨z', H4, I4, r4, q4⟩ => ho' pins s4 σ H4 y z' u w' Q I4 r2 r4 q4))
def TruV (K : PySem.W.Frag) (x : V) (H : Hp) (k : Bool) : Prop :=
  match x with
  | .non => k = false
  | .bl b => k = b
  | .int i => k = (i != 0)
  | .str y => y.length ≤ sizeLine ∧ k = ((y.length : Int) != 0)
  | .byt y => y.size ≤ sizeLine ∧ k = ((y.size : Int) != 0)
  | .ref p => (∃ xs, SqL K H p xs ∧ k = !xs.isEmpty) ∨ (∃ xs, SqT K H p xs ∧ k = !xs.isEmpty) ∨ ∃ kvs, H p = some (.dK kvs) ∧ k = !kvs.isEmpty
  | _ => False
theorem isEmpty_kv {κ : Type} {kvs : List (κ × V)} {vs : List (κ × Value)} (r : KV kvs vs) : (!vs.isEmpty) = !kvs.isEmpty := by
  cases r <;> rfl
theorem isEmpty_of {xs : List V} {its : List Value} (r : Vals xs its) : (!its.toArray.isEmpty) = !xs.isEmpty := by
  cases r <;> simp
theorem line63 : (sizeLine : Nat) < 2 ^ 63 := by rw [sizeLine_eq]; decide
theorem tru_ok : TruR X (fun x H Q => ∃ k, TruV X.K x H k ∧ Q k H) := by
  intro pins s σ H x v Q I rx h
  obtain ⟨k, e, q⟩ := h
  have hl := line63
  have hs : sizeLine = 16777216 := sizeLine_eq
  cases x with
  | non =>
    cases rx
    have e' : k = false := e
    subst e'
    exact truthy_none ⟨H, I, q⟩
  | bl b =>
    cases rx
    have e' : k = b := e
    subst e'
    exact wpAny_truthy_bool ⟨H, I, q⟩
  | int i =>
    obtain ⟨t, rfl⟩ := rx
    have e' : k = (i != 0) := e
    subst e'
    exact PySem.P.truthy_int ⟨H, I, q⟩
  | str y =>
    obtain ⟨t, rfl⟩ := rx
    obtain ⟨hy, e'⟩ : y.length ≤ sizeLine ∧ k = ((y.length : Int) != 0) := e
    subst e'
    exact PySem.P.truthy_str (by omega) ⟨H, I.tok _, q⟩
  | byt y =>
    obtain ⟨t, rfl⟩ := rx
    obtain ⟨hy, e'⟩ : y.size ≤ sizeLine ∧ k = ((y.size : Int) != 0) := e
    subst e'
    exact PySem.W.truthy_bytes (by omega) ⟨H, I.tok _, q⟩
  | ref p =>
    cases rx
    have e' : (∃ xs, SqL X.K H p xs ∧ k = !xs.isEmpty) ∨ (∃ xs, SqT X.K H p xs ∧ k = !xs.isEmpty) ∨ ∃ kvs, H p = some (.dK kvs) ∧ k = !kvs.isEmpty := e
    rcases e' with ⟨xs, hx, e'⟩ | ⟨xs, hx, e'⟩ | ⟨kvs, hx, e'⟩
    · subst e'
      obtain ⟨its, r, pl, hz⟩ := I.list hx
      have hlen := r.length
      exact wpAny_truthy_list pl.isList (by simp only [List.size_toArray]; omega) ⟨H, I.tok _, by rw [isEmpty_of r]; exact q⟩
    · subst e'
      obtain ⟨its, r, pl, hz⟩ := I.tuple hx
      have hlen := r.length
      exact truthy_tuple pl (by simp only [List.size_toArray]; omega) ⟨H, I.tok _, by rw [isEmpty_of r]; exact q⟩
    · subst e'
      obtain ⟨hz, hS, vs, r, m⟩ : kvs.length ≤ sizeLine ∧ (p == sysModules) = false ∧ ∃ vs, KV kvs vs ∧ s.heap.DictOf (mixKind X.prog X.w) p vs := I.hok p _ hx
      have hlen : kvs.length = vs.length := Paired.length r
      exact wpAny_truthy_dict hS m (by omega) ⟨H, I.tok _, by rw [isEmpty_kv r]; exact q⟩
  | _ => exact (show False from e).elim
theorem pt_truth (ha : PE X a ta) (he : ∀ whole, isTrue a X.env whole = (do let v ← whole; standAt a.pos; holding [v] (truthy v))) :
    PT X a (fun σ H Q => ta σ H fun x H' => ∃ k, TruV X.K x H' k ∧ Q k H') := by
  intro pins s σ H Q I h
  exact isTrue_plain (thn (ha pins s σ H _ I h) fun v s1 ⟨x, H1, I1, r1, q1⟩ => tru_ok pins s1 σ H1 x v Q I1 r1 q1) (he _)
theorem op_add_str : OpR X (binaryOp .Add) (fun x y H Q => ∃ i j, x = .str i ∧ y = .str j ∧ i.length + j.length ≤ sizeLine ∧ Q (.str (i ++ j)) H) := by
  intro pins s σ H x y v u Q I rx ry h
  obtain ⟨i, j, rfl, rfl, hz, q⟩ := h
  obtain ⟨t, rfl⟩ := rx
  obtain ⟨t', rfl⟩ := ry
  exact add_str (fun t' tk => ⟨.str (i ++ j), H, I.tok _, ⟨_, rfl⟩, q⟩) hz
theorem vals1 {x : V} {us : List Value} (r : Vals [x] us) : ∃ u, us = [u] ∧ RelV x u := by
  cases r with
  | cons r1 r2 => cases r2; exact ⟨_, rfl, r1⟩
theorem vals2 {x y : V} {us : List Value} (r : Vals [x, y] us) : ∃ u w', us = [u, w'] ∧ RelV x u ∧ RelV y w' := by
  cases r with
  | cons r1 r2 =>
    cases r2 with
    | cons r3 r4 => cases r4; exact ⟨_, _, rfl, r1, r3⟩
theorem call_int1 : CallR X (.type "int") (fun xs H Q => (∃ i, xs = [.int i] ∧ Q (.int i) H) ∨ ∃ k, xs = [.bl k] ∧ Q (.int (if k then 1 else 0)) H) := by
  intro pins s σ H xs us Q I r h
  rcases h with ⟨i, rfl, q⟩ | ⟨k, rfl, q⟩
  · obtain ⟨u, rfl, t, rfl⟩ := vals1 r
    exact call_int_int ⟨.int i, H, I, ⟨_, rfl⟩, q⟩
  · obtain ⟨u, rfl, r1⟩ := vals1 r
    cases r1
    exact call_int_bool ⟨.int (if k then 1 else 0), H, I.tok _, ⟨_, rfl⟩, q⟩
end
end L2
namespace L2
open PySem PySem.Spec PyProof.Rows
structure ObjM (h : Heap) (x dx C : Addr) (mA : Str → Option Value) : Prop where
  obj : h.get? x = some (PySem.W.instObj C dx)
  ns : h.Ns1 dx mA
  ne : dx ≠ x
theorem lookIn_ns {h : Heap} {dx : Addr} {mA : Str → Option Value} (n : h.Ns1 dx mA) : ∃ od, h.get? dx = some od ∧ ∀ name, PySem.W.lookIn name od = some (mA name) := by
  obtain ⟨o, es, ep, ho, hd, hk, _, hm⟩ := n
  refine ⟨o, ho, fun name => ?_⟩
  have e := hm name
  unfold nsFind findBy at e
  rw [← Array.find?_toList] at e
  unfold PySem.W.lookIn
  rw [hd]
  dsimp only
  split
  · rename_i y q
    rw [q] at e
    exact congrArg some e
  · rename_i q
    rw [q] at e
    have a : es.toList.any (·.refKey) = false := by
      rw [List.any_eq_false]
      intro y hy
      obtain ⟨z, t, hkey⟩ := hk y (Array.mem_toList_iff.mp hy)
      simp [DictEntry.refKey, hkey]
    have a' : ¬ es.toList.any (·.refKey) = true := by rw [a]; exact Bool.false_ne_true
    rw [if_neg a']
    exact congrArg some e
theorem ObjM.look {h : Heap} {x dx C : Addr} {mA : Str → Option Value} (I : ObjM h x dx C mA) : ∃ od, PySem.W.InstAt h x (PySem.W.instObj C dx) C (some od) ∧ ∀ name, PySem.W.lookIn name od = some (mA name) :=
  let ⟨od, ho, hl⟩ := lookIn_ns I.ns
  ⟨od, ⟨I.obj, rfl, rfl, ho⟩, hl⟩
section
variable {prog : Program} {w : World} {A : Around} {E : Value → Shared → Prop} {s : Shared} {K : PySem.W.Frag} {x dx C f : Addr} {mA : Str → Option Value} {name : Str} {v : Value}
end
theorem RelO.none_of {o : Option Value} (r : RelO none o) : o = none := by
  cases o with
  | none => rfl
  | some u => exact (show False from r).elim
section
variable {P : Program} {w : World} {H H' : Hp} {h h' : Heap} {a C dx : Addr} {fs fs' : List (Str × V)}
theorem ins_get (hok : HOk P w H h) (e : H a = some (.ins C dx fs)) : ∃ mA, ObjM h a dx C mA ∧ (∀ f, RelO (fs.lookup f) (mA f)) ∧ PySem.Within mA (fs.map (·.1)) ∧ fs.length ≤ 1000 ∧ H dx = some (.own a) := by
  obtain ⟨d, z, ne, ob, mA, n, r, q⟩ := (show ObjOk P w H h a (.ins C dx fs) from hok a _ e)
  exact ⟨mA, ⟨ob, n, ne⟩, r, q, z, d⟩
end
structure Cls (K : PySem.W.Frag) (C : Addr) : Prop where
  pg : PySem.W.plainGet K C Str.empty = true
  hd : PySem.W.hasDictIn K C = true
  po : PySem.W.plainOver K C = true
  sa : PySem.W.findIn K (.ref C) "__setattr__" = some (some (.builtin "object.__setattr__"))
theorem Cls.get {K : PySem.W.Frag} {C : Addr} (c : Cls K C) (f : Str) : PySem.W.plainGet K C f = true := c.pg
structure Con (K : PySem.W.Frag) (C : Addr) (f : Str) (v : V) (u : Value) : Prop where
  at_ : PySem.W.findIn K (.ref C) f = some (some u)
  rel : RelV v u
  get : PySem.W.specialIn K u "__get__" = some none
  cp : PySem.W.copiedNames.contains f = false
structure Meth (K : PySem.W.Frag) (C : Addr) (m : Str) (f : Addr) : Prop where
  at_ : PySem.W.findIn K (.ref C) m = some (some (.ref f))
  fn : PySem.W.isFn K (.ref f) = true
  kp : PySem.W.keepIn K (.ref f) = true
section
variable {X : Cx} {pins : List (Addr × Obj)} {σ : St} {H : Hp} {s : Shared} {a C dx : Addr} {fs : List (Str × V)} {f : Str} {v : V} {A : Around} {E : Value → Shared → Prop}
end
section
variable {X : Cx} {o e value : Expr} {f : Str} {pos pos' tpos : Pos} {ta tv : TE}
end
section
variable {X : Cx} {pins : List (Addr × Obj)} {σ : St} {H : Hp} {s : Shared} {A : Around} {E : Value → Shared → Prop} {Q : Value → Shared → Prop} {c : Value} {b : Bool}
inductive TyOf (K : PySem.W.Frag) (H : Hp) : V → Value → Prop where
  | non : TyOf K H .non (.type "NoneType")
  | bl (x : Bool) : TyOf K H (.bl x) (.type "bool")
  | int (i : Int) : TyOf K H (.int i) (.type "int")
  | str (x : Str) : TyOf K H (.str x) (.type "str")
  | flt (x : UInt64) : TyOf K H (.flt x) (.type "float")
  | lst {a : Addr} {xs : List V} (e : H a = some (.lst xs)) : TyOf K H (.ref a) (.type "list")
  | frz {a : Addr} {o : Obj} {xs : List V} (e : H a = some (.frz o (.lst xs))) : TyOf K H (.ref a) (.type "list")
  | tup {a : Addr} {xs : List V} (e : H a = some (.tup xs)) : TyOf K H (.ref a) (.type "tuple")
  | dK {a : Addr} {kvs : List (Key × V)} (e : H a = some (.dK kvs)) : TyOf K H (.ref a) (.type "dict")
  | dT {a : Addr} {kvs : List (List Key × V)} (e : H a = some (.dT kvs)) : TyOf K H (.ref a) (.type "dict")
  | ins {a C dx : Addr} {fs : List (Str × V)} (e : H a = some (.ins C dx fs)) (cl : Cls K C) (ha : PySem.W.findIn K (.ref C) "__class__" = some (some (.builtin "object.__class__")))
      (hn : PySem.W.specialIn K (.builtin "object.__class__") "__get__" = some (some (.builtin "getset_descriptor.__get__"))) (htk : PySem.W.takesIn K (.builtin "object.__class__") = some true)
      (hm : PySem.W.mroIn K C (.type "object") = some true) : TyOf K H (.ref a) (.ref C)
theorem isinst_ok {x : V} {u t : Value} (I : Inv X pins σ H s) (rx : RelV x u) (ty : TyOf X.K H x t) (e : PySem.W.kitOne X.K t c = some b) (h : ∀ tk, Q (.bool b) { s with toks := tk }) :
    wpAny (model X.prog X.w) A (call (.builtin "isinstance") [u, c]) Q E s := by
  cases ty with
  | non => cases (show u = Value.none from rx); exact PySem.W.kia_one PySem.W.kitx_none I.kIn True.intro e (fun z => nomatch z) h
  | bl y => cases (show u = Value.bool y from rx); exact PySem.W.kia_one PySem.W.kitx_bool I.kIn True.intro e (fun z => nomatch z) h
  | int i => obtain ⟨t, q⟩ := (show ∃ t, u = Value.int i t from rx); cases q; exact PySem.W.kia_one PySem.W.kitx_int I.kIn True.intro e (fun z => nomatch z) h
  | str y => obtain ⟨t, q⟩ := (show ∃ t, u = Value.str y t from rx); cases q; exact PySem.W.kia_one PySem.W.kitx_str I.kIn True.intro e (fun z => nomatch z) h
  | flt y => obtain ⟨t, q⟩ := (show ∃ t, u = Value.float y t from rx); cases q; exact PySem.W.kia_one PySem.W.kitx_float I.kIn True.intro e (fun z => nomatch z) h
  | @lst a xs ea =>
    cases (show u = Value.ref a from rx)
    obtain ⟨_, _, n, _, h1⟩ := (show ObjOk X.prog X.w H s.heap a (.lst xs) from I.hok a _ ea)
    exact PySem.W.kia_one PySem.W.kitx_list I.kIn ⟨_, h1, rfl⟩ e (fun z => nomatch z) h
  | @frz a ob xs ea =>
    cases (show u = Value.ref a from rx)
    obtain ⟨_, _, _, n, _, h1⟩ := (show ObjOk X.prog X.w H s.heap a (.frz ob (.lst xs)) from I.hok a _ ea)
    exact PySem.W.kia_one PySem.W.kitx_list I.kIn ⟨_, h1, rfl⟩ e (fun z => nomatch z) h
  | @tup a xs ea =>
    cases (show u = Value.ref a from rx)
    obtain ⟨_, _, _, p⟩ := (show ObjOk X.prog X.w H s.heap a (.tup xs) from I.hok a _ ea)
    obtain ⟨o, h1, h2, _⟩ := p
    exact PySem.W.kia_one PySem.W.kitx_tuple I.kIn ⟨o, h1, h2⟩ e (fun z => nomatch z) h
  | @dK a kvs ea =>
    cases (show u = Value.ref a from rx)
    obtain ⟨_, _, vs, _, p⟩ := (show ObjOk X.prog X.w H s.heap a (.dK kvs) from I.hok a _ ea)
    obtain ⟨o, es, ep, h1, h2, _⟩ := p
    exact PySem.W.kia_one PySem.W.kitx_dict I.kIn ⟨o, h1, h2.1⟩ e (fun z => nomatch z) h
  | @dT a kvs ea =>
    cases (show u = Value.ref a from rx)
    obtain ⟨_, _, xs, _, o, es, ep, h1, h2, _⟩ := (show ObjOk X.prog X.w H s.heap a (.dT kvs) from I.hok a _ ea)
    exact PySem.W.kia_one PySem.W.kitx_dict I.kIn ⟨o, h1, h2.1⟩ e (fun z => nomatch z) h
  | @ins a C dx fs ea cl ha hn htk hm =>
    cases (show u = Value.ref a from rx)
    obtain ⟨mA, O, _⟩ := ins_get I.hok ea
    obtain ⟨od, J, _⟩ := O.look
    exact PySem.W.kia_one (PySem.W.kitx_own (cl.get _) cl.hd ha hn htk hm) I.kIn J e (fun z => nomatch z) h
end
end L2
namespace L2
open PySem PySem.Spec PyProof.Rows
structure Room (k : Nat) (A : Around) : Prop where
  hd : A.handled = none
  dp : A.depth + 3 * k + 5 < recursionLimit
  un : A.units + 16 * k + 200 < cLine
theorem Room.mono {j k : Nat} {A : Around} (r : Room k A) (h : j ≤ k) : Room j A := ⟨r.hd, by have := r.dp; omega, by have := r.un; omega⟩
theorem Room.deeper {k : Nat} {A : Around} (r : Room (k + 1) A) (env : Env) : Room k (A.deeper env) :=
  ⟨r.hd, by have := r.dp; show A.depth + 1 + 3 * k + 5 < _; omega, by have := r.un; show A.units + 3 + 16 * k + 200 < _; omega⟩
theorem Room.in1 {k : Nat} {A : Around} (r : Room (k + 1) A) : Room k A.in1 :=
  ⟨r.hd, by have := r.dp; show A.depth + 3 * k + 5 < _; omega, by have := r.un; show A.units + 1 + 16 * k + 200 < _; omega⟩
theorem Room.depth {k : Nat} {A : Around} (r : Room k A) : A.depth < recursionLimit := by have := r.dp; omega
theorem Room.units {k : Nat} {A : Around} (r : Room k A) : A.units + 64 < cLine := by have := r.un; omega
def tNil : TA := fun _ H Q => Q [] H
def tCons (ta : TE) (tr : TA) : TA := fun σ H Q => ta σ H fun x H1 => tr σ H1 fun xs H2 => Q (x :: xs) H2
section
variable {X : Cx} {e : Expr} {es : List Expr} {te : TE} {t : TA} {pos : Pos}
theorem pa_nil : PA X [] tNil := fun _ _ _ _ H Q I h => Calls.spliced_nil ⟨[], H, I, .nil, h⟩
theorem pa_cons (ha : PE X e te) (hr : PA X es t) (hs : starEach (e :: es) X.env = (false, eval e X.env) :: starEach es X.env := by rfl) : PA X (e :: es) (tCons te t) := by
  intro pos pins s σ H Q I h
  rw [hs]
  show wpAny _ _ (spliced ((false, eval e X.env) :: backTo pos (starEach es X.env))) _ _ s
  refine Calls.spliced_cons (thn (ha pins s σ H _ I h) fun u s1 ⟨x, H1, I1, r1, q1⟩ => ?_)
  exact thn (hr pos pins s1 σ H1 _ I1 q1) fun us s2 ⟨xs, H2, I2, r2, q2⟩ => ⟨x :: xs, H2, I2, .cons r1 r2, q2⟩
def tTup (t : TA) : TE := fun σ H Q => t σ H fun xs H1 => xs.length ≤ sizeLine ∧ ∀ p, H1 p = none → Q (.ref p) (upd H1 p (.tup xs))
def tLst (t : TA) : TE := fun σ H Q => t σ H fun xs H1 => xs.length ≤ sizeLine ∧ ∀ p, H1 p = none → Q (.ref p) (upd H1 p (.lst xs))
theorem pe_tup {x1} (h : PA X es t) : PE X (.Tuple es x1 pos) (tTup t) := by
  intro pins s σ H Q I hq
  refine wpAny_Tuple_spliced (thn (h pos pins s σ H _ I hq) fun us s1 ⟨xs, H1, I1, r, z, q⟩ => ⟨by rw [← r.length]; exact z, ?_⟩)
  have hf : H1 s1.heap.objs.size = none := I1.hok.fresh (Nat.le_refl _)
  refine ⟨.ref s1.heap.objs.size, upd H1 s1.heap.objs.size (.tup xs), I1.laid (t' := s1.toks) (fun b u e => Heap.get?_push_of_some _ e) (Nat.le_refl _) ?_, rfl, q _ hf⟩
  exact ⟨z, us, r, ⟨_, Heap.get?_push_size _ rfl, rfl, _, rfl⟩⟩
theorem pe_lst (h : PA X es t) : PE X (.List es pos) (tLst t) := by
  intro pins s σ H Q I hq
  refine wpAny_List_spliced (thn (h pos pins s σ H _ I hq) fun us s1 ⟨xs, H1, I1, r, z, q⟩ => ⟨by rw [← r.length]; exact z, ?_⟩)
  have hf : H1 s1.heap.objs.size = none := I1.hok.fresh (Nat.le_refl _)
  refine ⟨.ref s1.heap.objs.size, upd H1 s1.heap.objs.size (.lst xs), I1.laid (t' := s1.toks) (fun b u e => Heap.get?_push_of_some _ e) (Nat.le_refl _) ?_, rfl, q _ hf⟩
  exact ⟨z, us, 0, r, Heap.get?_push_size _ rfl⟩
end
abbrev Sp := List V → Hp → VK → XK → Prop
abbrev CXT := List Env → Hp → Shared → XK → Value → Shared → Prop
structure Env0 (P : Program) (w : World) (K : PySem.W.Frag) (mg : Str → Option Value) (base : Heap) (A : Around) (outer : List Env) (s : Shared) (H : Hp) : Prop where
  frames : A.frames = some outer
  mod : Mod K mg base
  bs : ∀ b o, base.get? b = some o → s.heap.get? b = some o ∧ H b = none
  bsz : base.objs.size ≤ s.heap.objs.size
  funs : s.heap.FunFrames base outer
  frf : ∀ b ∈ frs outer, H b = none
  hok : HOk P w H s.heap
  bare : AllBare s.gens
def CE (outer : List Env) (P : Program) (w : World) (H : Hp) (s : Shared) (Q : VK) (u : Value) (s' : Shared) : Prop :=
  ∃ v H', s'.os = s.os ∧ AllBare s'.gens ∧ Un (frs outer) [] H H' s.heap s'.heap ∧ HOk P w H' s'.heap ∧ RelV v u ∧ Q v H'
def CR (CX : CXT) (outer : List Env) (P : Program) (w : World) (H : Hp) (s : Shared) (Q : VK) (E : XK) (r : Result) (s' : Shared) : Prop :=
  match r with
  | .ok (.ret u) => CE outer P w H s Q u s'
  | .ok _ => False
  | .error e => CX outer H s E e s'
structure FnOk (P : Program) (w : World) (K : PySem.W.Frag) (mg : Str → Option Value) (base : Heap) (CX : CXT) (k : Nat) (f : Addr) (fd : FuncData) (ps : List Str) (sp : Sp) : Prop where
  len : ∀ vs H Q E, sp vs H Q E → vs.length = ps.length
  run : ∀ (A : Around) (outer : List Env) (s : Shared) (H : Hp) (args : Args) (us : List Value) (vs : List V) (Q : VK) (E : XK), Room k A → Env0 P w K mg base A outer s H → BindsTo s fd args (ps.zip us) → Vals vs us → sp vs H Q E →
    codeAny (model P w) A (.call (.ref f) args) (CR CX outer P w H s Q E) s
theorem FnOk.mono {P : Program} {w : World} {K : PySem.W.Frag} {mg : Str → Option Value} {base : Heap} {CX : CXT} {j k : Nat} {f : Addr} {fd : FuncData} {ps : List Str} {sp : Sp} (F : FnOk P w K mg base CX j f fd ps sp) (h : j ≤ k) :
    FnOk P w K mg base CX k f fd ps sp := ⟨F.len, fun A outer s H args us vs Q E hr => F.run A outer s H args us vs Q E (hr.mono h)⟩
theorem FnOk.imp {P : Program} {w : World} {K : PySem.W.Frag} {mg : Str → Option Value} {base : Heap} {CX : CXT} {k : Nat} {f : Addr} {fd : FuncData} {ps : List Str} {sp sp' : Sp} (F : FnOk P w K mg base CX k f fd ps sp)
    (h : ∀ vs H Q E, sp' vs H Q E → sp vs H Q E) : FnOk P w K mg base CX k f fd ps sp' :=
  ⟨fun vs H Q E q => F.len vs H Q E (h _ _ _ _ q), fun A outer s H args us vs Q E hr he hb hv hs => F.run A outer s H args us vs Q E hr he hb hv (h _ _ _ _ hs)⟩
theorem Env0.in1 {P : Program} {w : World} {K : PySem.W.Frag} {mg : Str → Option Value} {base : Heap} {A : Around} {outer : List Env} {s : Shared} {H : Hp} (e : Env0 P w K mg base A outer s H) :
    Env0 P w K mg base A.in1 outer s H := ⟨e.frames, e.mod, e.bs, e.bsz, e.funs, e.frf, e.hok, e.bare⟩
section
variable {X : Cx} {pins : List (Addr × Obj)} {σ : St} {H : Hp} {s s' : Shared}
theorem Inv.env0 (I : Inv X pins σ H s) : Env0 X.prog X.w X.K X.mg X.base X.A X.stack s H :=
  ⟨I.ok.frames, I.ok.mod, I.bs, Nat.le_trans I.ok.bsz I.sz, I.stack, I.stkFree, I.hok, I.bare⟩
theorem Inv.after {Q : VK} {u : Value} (I : Inv X pins σ H s) (h : CE X.stack X.prog X.w H s Q u s') : EP X pins σ Q u s' := by
  obtain ⟨v, H', os, bare, un, hok, r, q⟩ := h
  obtain ⟨hh, g, d, t, os'⟩ := s'
  obtain rfl : os' = s.os := os
  exact ⟨v, H', I.call (h' := hh) (g' := g) (d' := d) (t' := t) (ch := []) un hok bare (fun b z => absurd z (by simp)), r, q⟩
end
def tCall (sp : Sp) (dvs : List V) (E : XK) (t : TA) : TE := fun σ H Q => t σ H fun vs H1 => sp (vs ++ dvs) H1 Q E
def Binds (K : PySem.W.Frag) (fd : FuncData) (ps : List Str) (ds : List Value) : Prop :=
  ∀ (s : Shared) (us : List Value), K.In s.heap → (us ++ ds).length = ps.length → BindsTo s fd ⟨us, []⟩ (ps.zip (us ++ ds))
theorem Binds.all {K : PySem.W.Frag} {fd : FuncData} {ps : List Str} (h : ∀ us : List Value, us.length = ps.length → bindArgs fd ⟨us, []⟩ = pure (ps.zip us)) : Binds K fd ps [] := fun s us _ hl => by
  rw [List.append_nil] at hl ⊢
  exact .of_eq (h us hl)
def Passes (CX : CXT) (X : Cx) (E : XK) : Prop := ∀ (pins : List (Addr × Obj)) (σ : St) (H : Hp) (s : Shared) (e : Value) (s' : Shared), Inv X pins σ H s → CX X.stack H s E e s' → X.xe e s'
section
variable {X : Cx} {CX : CXT} {k : Nat} {f C : Addr} {fd : FuncData} {ps : List Str} {sp : Sp} {dvs : List V} {ds : List Value} {E : XK} {x m : Str} {p pos apos : Pos} {e o : Expr} {es : List Expr} {ta : TE} {t : TA}
theorem run_fn {pins : List (Addr × Obj)} {σ : St} {H : Hp} {s : Shared} {Q : VK} {us : List Value} {vs : List V} (F : FnOk X.prog X.w X.K X.mg X.base CX k f fd ps sp) (hr : Room k X.A) (hb : Binds X.K fd ps ds) (hd : Vals dvs ds) (hx : Passes CX X E)
    (I : Inv X pins σ H s) (r : Vals vs us) (h : sp (vs ++ dvs) H Q E) : wpAny (model X.prog X.w) X.A (call (.ref f) us) (EP X pins σ Q) X.xe s := by
  have r2 : Vals (vs ++ dvs) (us ++ ds) := r.append hd
  have hl : (us ++ ds).length = ps.length := by rw [← r2.length]; exact F.len _ _ _ _ h
  refine wpAny_call (codeAny_mono (F.run X.A X.stack s H ⟨us, []⟩ (us ++ ds) (vs ++ dvs) Q E hr I.env0 (hb s us I.kIn hl) r2 h) fun r s' hq => ?_)
  cases r with
  | error e => exact hx pins σ H s e s' I hq
  | ok fl =>
    cases fl with
    | ret u => exact I.after hq
    | next => exact False.elim hq
    | brk => exact False.elim hq
    | cont => exact False.elim hq
theorem pe_call (F : FnOk X.prog X.w X.K X.mg X.base CX k f fd ps sp) (hr : Room k X.A) (hg : Gl X x) (hm : X.mg x = some (.ref f)) (hk : PySem.W.keepIn X.K (.ref f) = true) (hb : Binds X.K fd ps ds) (hd : Vals dvs ds) (hx : Passes CX X E)
    (ha : PA X (e :: es) t) (hdb : (x == ("__debug__" : Str)) = false := by decide) (he : starEach (e :: es) X.env = (false, eval e X.env) :: starEach es X.env := by rfl) (hpl : (backTo pos (starEach es X.env)).any (·.1) = false := by rfl) :
    PE X (.Call (.Name x p) (e :: es) [] pos) (tCall sp dvs E t) := by
  intro pins s σ H Q I h
  refine wpAny_Call_Name_kw (ld_glob I hg hm ?_ hdb)
  refine PySem.W.callWith_K (h₀ := X.base) I.ok.mod.kin hk (thn (ha pos pins s σ H _ I h) fun us s1 ⟨vs, H1, I1, r, q⟩ => ⟨I1.kIn, ?_⟩) he hpl
  exact run_fn F hr hb hd hx I1 r q
structure Mk (K : PySem.W.Frag) (C f : Addr) : Prop where
  makes : PySem.W.makesIn K C = true
  init : PySem.W.findIn K (.ref C) "__init__" = some (some (.ref f))
  fn : PySem.W.isFn K (.ref f) = true
  kp : PySem.W.keepIn K (.ref C) = true
end
section
variable {X : Cx} {CX : CXT} {k : Nat} {f C : Addr} {fd : FuncData} {ps ks : List Str} {sp : Sp} {E : XK} {x m : Str} {p pos apos kpos : Pos} {e o : Expr} {es : List Expr} {kws : List Keyword} {te ta : TE} {t tk : TA} {nm : Option Str}
structure KBinds (K : PySem.W.Frag) (fd : FuncData) (ps ks : List Str) (g : List Value → List Value → List Value) (gV : List V → List V → List V) : Prop where
  to : ∀ (s : Shared) (us ws : List Value), K.In s.heap → (g us ws).length = ps.length → BindsTo s fd ⟨us, ks.zip ws⟩ (ps.zip (g us ws))
  rel : ∀ {vs : List V} {us : List Value} {zs : List V} {ws : List Value}, Vals vs us → Vals zs ws → Vals (gV vs zs) (g us ws)
variable {g : List Value → List Value → List Value} {gV : List V → List V → List V}
end
structure FnScope (N P : List Str) (sc : Scope) : Prop where
  kind : sc.kind = .function
  co : sc.isCoroutine = false
  gen : sc.isGenerator = false
  nd : N.Nodup
  pre : N.take P.length = P
  par : ∀ x ∈ P, sc.names.lookup x = some .local ∨ sc.names.lookup x = some .cell
  nofree : ∀ y ∈ sc.names, y.2 ≠ .free
theorem bindL_out {kindOf : Str → Option NameKind} {x : Str} : ∀ {binds : List (Str × Value)} {m : Str → Option Value}, (∀ v, (x, v) ∉ binds) → bindL kindOf binds m x = m x
  | [], _, _ => rfl
  | (n, v) :: r, m, h => by
    unfold bindL
    rw [bindL_out fun w hw => h w (List.mem_cons_of_mem _ hw)]
    split
    · have : x ≠ n := by rintro rfl; exact h v List.mem_cons_self
      simp [this]
    · rfl
theorem bindC_out {kindOf : Str → Option NameKind} {x : Str} : ∀ {binds : List (Str × Value)} {m : Str → Option Value}, (∀ v, (x, v) ∉ binds) → bindC kindOf binds m x = m x
  | [], _, _ => rfl
  | (n, v) :: r, m, h => by
    unfold bindC
    rw [bindC_out fun w hw => h w (List.mem_cons_of_mem _ hw)]
    split
    · rfl
    · have : x ≠ n := by rintro rfl; exact h v List.mem_cons_self
      simp [this]
theorem bindL_get {kindOf : Str → Option NameKind} {x : Str} {v : Value} : ∀ {P : List Str} {vs : List Value} {i : Nat} {m : Str → Option Value}, P.Nodup → P[i]? = some x → vs[i]? = some v → kindOf x = some .local →
    bindL kindOf (P.zip vs) m x = some v
  | [], _, _, _, _, h, _, _ => by simp at h
  | _ :: _, [], _, _, _, _, h, _ => by simp at h
  | p :: P, w :: vs, 0, m, nd, h1, h2, hk => by
    simp at h1 h2; subst h1; subst h2
    show bindL kindOf ((p, w) :: P.zip vs) m p = _
    unfold bindL
    rw [bindL_out fun v hv => (List.nodup_cons.mp nd).1 (List.of_mem_zip hv).1, if_pos hk]
    simp
  | p :: P, w :: vs, i + 1, m, nd, h1, h2, hk => by
    show bindL kindOf ((p, w) :: P.zip vs) m x = _
    unfold bindL
    exact bindL_get (i := i) (List.nodup_cons.mp nd).2 (by simpa using h1) (by simpa using h2) hk
theorem bindC_get {kindOf : Str → Option NameKind} {x : Str} {v : Value} : ∀ {P : List Str} {vs : List Value} {i : Nat} {m : Str → Option Value}, P.Nodup → P[i]? = some x → vs[i]? = some v → kindOf x ≠ some .local →
    bindC kindOf (P.zip vs) m x = some v
  | [], _, _, _, _, h, _, _ => by simp at h
  | _ :: _, [], _, _, _, _, h, _ => by simp at h
  | p :: P, w :: vs, 0, m, nd, h1, h2, hk => by
    simp at h1 h2; subst h1; subst h2
    show bindC kindOf ((p, w) :: P.zip vs) m p = _
    unfold bindC
    rw [bindC_out fun v hv => (List.nodup_cons.mp nd).1 (List.of_mem_zip hv).1, if_neg hk]
    simp
  | p :: P, w :: vs, i + 1, m, nd, h1, h2, hk => by
    show bindC kindOf ((p, w) :: P.zip vs) m x = _
    unfold bindC
    exact bindC_get (i := i) (List.nodup_cons.mp nd).2 (by simpa using h1) (by simpa using h2) hk
def start (N : List Str) (vs : List V) : St := vs.map some ++ List.replicate (N.length - vs.length) none
def cxOf (CX : CXT) (P : Program) (w : World) (K : PySem.W.Frag) (mg : Str → Option Value) (base : Heap) (N : List Str) (qual : Str) (scope : Scope) (f : Addr) (cd : Value) (A : Around) (outer : List Env) (s : Shared) (H : Hp) (E : XK) : Cx where
  prog := P
  w := w
  K := K
  mg := mg
  base := base
  A := A.deeper (envOfC qual scope s.heap.objs.size f cd)
  N := N
  s₀ := s
  H₀ := H
  env := envOfC qual scope s.heap.objs.size f cd
  outer := outer
  stack := envOfC qual scope s.heap.objs.size f cd :: outer
  ex := []
  calm := true
  fn := fun _ => true
  pn := []
  xe := fun e s' => wpAny (model P w) (A.deeper (envOfC qual scope s.heap.objs.size f cd)) (leaving (envOfC qual scope s.heap.objs.size f cd) e) (fun _ s'' => CX outer H s E e s'') (fun e' s'' => CX outer H s E e' s'') s'
theorem cell_has {sc : Scope} {n : Nat} {x : Str} (h : sc.names.lookup x = some .cell) : ∃ c, (cellsFrom n sc.names []).lookup x = some c := by
  have q := PySem.W.cellsFrom_some sc.names n [] (.inl h)
  exact Option.isSome_iff_exists.mp q
theorem inv_start {CX : CXT} {P : Program} {w : World} {K : PySem.W.Frag} {mg : Str → Option Value} {base : Heap} {N ps : List Str} {qual : Str} {scope : Scope} {f : Addr} {cd : Value} {A : Around} {outer : List Env} {s s1 : Shared} {H : Hp} {E : XK} {us : List Value} {vs : List V}
    (S : FnScope N ps scope) (hd : A.handled = none) (e0 : Env0 P w K mg base A outer s H) (hl : vs.length = ps.length) (r : Vals vs us)
    (x : InCallC s s.heap.objs.size (bindL (envOfC qual scope s.heap.objs.size f cd).kindOf (ps.zip us) fun _ => none) (cellsFrom (s.heap.objs.size + 1) scope.names []) (bindC (envOfC qual scope s.heap.objs.size f cd).kindOf (ps.zip us) fun _ => none) s1) :
    Inv (cxOf CX P w K mg base N qual scope f cd A outer s H E) [] (start N vs) H s1 := by
  have hpl : ps.length ≤ N.length := by have := congrArg List.length S.pre; rw [List.length_take] at this; omega
  obtain ⟨h1, tk, rfl, hk⟩ := x.done
  have noA : ∀ b : Addr, b ∉ (cxOf CX P w K mg base N qual scope f cd A outer s H E).ex := fun b z => absurd (show b ∈ ([] : List Addr) from z) (by simp)
  refine ⟨⟨e0.mod, S.kind, rfl, rfl, Nat.le_refl _, fun y z c h1 h2 => ?_, fun y hy => ?_, fun y c _ h => ?_, fun _ => hd, Around.frames_deeper e0.frames, .inr ⟨rfl, rfl⟩, fun b z => absurd z (noA b), e0.bs, e0.bsz, fun b _ _ => noA b, fun b z => absurd z (noA b), e0.funs, e0.frf⟩,
    rfl, e0.bare, Un.kept hk, ⟨_, x.toInCall.ns, fun i y v h1 h2 h3 => ?_⟩, fun y c h => ⟨_, x.cell y c h⟩, e0.hok.fresh (Nat.le_refl _), fun y c h => ?_, fun p hp => absurd (show p ∈ ([] : List (Addr × Obj)) from hp) (by simp), e0.hok.kept hk, ?_⟩
  · exact name_of_addr x.apart (PySem.mem_of_lookup h1) (PySem.mem_of_lookup h2)
  · have hy : scope.names.lookup y = some .cell ∨ scope.names.lookup y = some .free := hy
    rcases hy with hy | hy
    · exact cell_has hy
    · exact absurd rfl (S.nofree _ (PySem.mem_of_lookup hy))
  · exact Nat.le_of_lt (x.above y c (PySem.mem_of_lookup h))
  · have hi : i < vs.length := by
      unfold start at h2
      by_cases hi : i < vs.length
      · exact hi
      · rw [List.getElem?_append_right (by simpa using hi)] at h2
        rw [List.getElem?_replicate] at h2
        split at h2 <;> cases h2
    have ha : vs[i]? = some v := by
      unfold start at h2
      rw [List.getElem?_append_left (by simpa using hi), List.getElem?_map] at h2
      cases e : vs[i]? with
      | none => rw [e] at h2; cases h2
      | some a => rw [e] at h2; cases h2; rfl
    obtain ⟨u, hu, rv⟩ := r.get ha
    have hp : ps[i]? = some y := by
      rw [← S.pre, List.getElem?_take_of_lt (by omega)]; exact h1
    have ndP : ps.Nodup := by rw [← S.pre]; exact S.nd.sublist (List.take_sublist _ _)
    refine ⟨u, rv, ?_⟩
    rcases S.par y (List.mem_of_getElem? hp) with k | k
    · exact .inl ⟨k, bindL_get ndP hp hu k⟩
    · obtain ⟨c, e⟩ := cell_has (n := s.heap.objs.size + 1) k
      refine .inr ⟨.inl k, c, e, ?_⟩
      have q := x.cell y c e
      rw [bindC_get ndP hp hu (by show scope.names.lookup y ≠ _; rw [k]; decide)] at q
      exact q
  · exact e0.hok.fresh (Nat.le_of_lt (x.above y c (PySem.mem_of_lookup h)))
  · unfold start
    show _ = N.length
    rw [List.length_append, List.length_map, List.length_replicate]
    omega
theorem fn_of {CX : CXT} {P : Program} {w : World} {K : PySem.W.Frag} {mg : Str → Option Value} {base : Heap} {k : Nat} {f : Addr} {name qual : Str} {params : Arguments} {body : List Stmt} {scope : Scope} {dV kV doc pm cdv ct oc : Value} {an od : Option Addr}
    {osl : Array (Option Value)} {N ps : List Str} {sp : Sp} (lk : K.lookup f = some ⟨oc, od, .func (PySem.W.fnOf name qual params body scope dV kV doc pm an cdv ct), osl⟩) (hcd : PySem.W.codeIn K cdv qual = true) (S : FnScope N ps scope)
    (len : ∀ vs H Q E, sp vs H Q E → vs.length = ps.length)
    (hbody : ∀ (A : Around) (outer : List Env) (s : Shared) (H : Hp) (vs : List V) (Q : VK) (E : XK), Room k (A.deeper (envOfC qual scope s.heap.objs.size f cdv)) → sp vs H Q E →
      ∃ t, PSs (cxOf CX P w K mg base N qual scope f cdv A outer s H E) body t ∧ t { nx := fun _ H' => Q .non H', rt := Q } (start N vs) H) :
    FnOk P w K mg base CX (k + 1) f (PySem.W.fnOf name qual params body scope dV kV doc pm an cdv ct) ps sp := by
  refine ⟨len, fun A outer s H args us vs Q E hr e0 hb r hsp => ?_⟩
  have hl := len _ _ _ _ hsp
  have KX : K.In s.heap := e0.mod.kin.keeps fun b o e => (e0.bs b o e).1
  have lim : s.heap.NoLimit := e0.mod.nolimit.keeps fun b o e => (e0.bs b o e).1
  have hkind : ∀ y ∈ ps.zip us, scope.names.lookup y.1 = some .local ∨ (scope.names.lookup y.1 = some .cell ∧ ((cellsFrom (s.heap.objs.size + 1) scope.names []).lookup y.1).isSome = true) := fun ⟨n, v⟩ hy => by
    rcases S.par n (List.of_mem_zip hy).1 with q | q
    · exact .inl q
    · exact .inr ⟨q, PySem.W.cellsFrom_some _ _ _ (.inl q)⟩
  refine codeAny_call_function hr.depth (KX _ _ lk) rfl S.co S.gen rfl (PySem.W.codeRec_of KX hcd) (hb _ _ _ _ ?_)
  refine wpAny_newFunctionEnv_cells S.kind hkind fun env he s1 x => ?_
  subst he
  refine ⟨lim.keeps x.toInCall.keep, codeAny_func ?_⟩
  obtain ⟨t, ht, hq⟩ := hbody A outer s H vs Q E (hr.deeper _) hsp
  have I : Inv (cxOf CX P w K mg base N qual scope f cdv A outer s H E) [] (start N vs) H s1 := inv_start S hr.hd e0 hl r x
  refine wpAny_mono (ht [] s1 (start N vs) H _ I hq) (fun fl s' hs => ?_) fun e s' hs => hs
  have fin : ∀ {σ' : St} {H' : Hp} {v : V} {u : Value}, Inv (cxOf CX P w K mg base N qual scope f cdv A outer s H E) [] σ' H' s' → RelV v u → Q v H' → CE outer P w H s Q u s' :=
    fun {σ' H' v u} J rv q => ⟨v, H', J.os, J.bare, J.base, J.hok, rv, q⟩
  cases fl with
  | ret u =>
    obtain ⟨v, σ', H', J, rv, q⟩ := hs
    exact fin J rv q
  | next =>
    obtain ⟨σ', H', J, q⟩ := hs
    exact fin (v := V.non) (u := Value.none) J rfl q
  | brk =>
    obtain ⟨_, _, _, q⟩ := hs
    exact False.elim q
  | cont =>
    obtain ⟨_, _, _, q⟩ := hs
    exact False.elim q
end L2
namespace L2
open PySem PySem.Spec PyProof.Rows
section
variable {X : Cx} {x : Str} {p pos : Pos} {e : Expr} {es : List Expr} {t : TA} {id T : String} {r : List V → Hp → VK → Prop}
def tCB (r : List V → Hp → VK → Prop) (t : TA) : TE := fun σ H Q => t σ H fun vs H1 => r vs H1 Q
theorem pe_callB (hc : CallR X (.builtin id) r) (hg : Gl X x) (hm : X.mg x = none) (hv : bootBuiltins x = some (.builtin id)) (ha : PA X (e :: es) t) (hn : x ≠ "__name__" := by decide) (hdb : (x == ("__debug__" : Str)) = false := by decide)
    (he : starEach (e :: es) X.env = (false, eval e X.env) :: starEach es X.env := by rfl) (hpl : (backTo pos (starEach es X.env)).any (·.1) = false := by rfl) : PE X (.Call (.Name x p) (e :: es) [] pos) (tCB r t) := by
  intro pins s σ H Q I h
  refine wpAny_Call_Name_kw (ld_blt I hg hm hv ?_ hn hdb)
  exact PyProof.Rows.callWith_builtin1 (thn (ha pos pins s σ H _ I h) fun us s1 ⟨vs, H1, I1, r1, q1⟩ => hc pins s1 σ H1 vs us Q I1 r1 q1) he hpl
theorem pe_callTy (hc : CallR X (.type T) r) (hg : Gl X x) (hm : X.mg x = none) (hv : bootBuiltins x = some (.type T)) (ha : PA X (e :: es) t) (hn : x ≠ "__name__" := by decide) (hdb : (x == ("__debug__" : Str)) = false := by decide)
    (he : starEach (e :: es) X.env = (false, eval e X.env) :: starEach es X.env := by rfl) (hpl : (backTo pos (starEach es X.env)).any (·.1) = false := by rfl) : PE X (.Call (.Name x p) (e :: es) [] pos) (tCB r t) := by
  intro pins s σ H Q I h
  refine wpAny_Call_Name_kw (ld_blt I hg hm hv ?_ hn hdb)
  exact PyProof.Rows.callWith_type1 (thn (ha pos pins s σ H _ I h) fun us s1 ⟨vs, H1, I1, r1, q1⟩ => hc pins s1 σ H1 vs us Q I1 r1 q1) he hpl
end
end L2
namespace HT
open PySem PyProof.Rows
section
open PySem.SeqAt
open PySem.AutoSeq1 (wpAny_loadPart')
open PySem.MeetsSeq PySem.MeetsSeq2 PySem.MeetsSeq3
end
section
variable {prog : Program} {w : World} {A : Around} {E : Value → Shared → Prop} {s : Shared}
theorem cat_tup {t b : Addr} {vs ws : List Value} {Q : Value → Shared → Prop} (ht : IsTup s.heap t vs.toArray) (hb : IsTup s.heap b ws.toArray) (hv : vs ≠ [])
    (h1 : ws = [] → Q (.ref t) s) (h2 : ws ≠ [] → Q (.ref s.heap.objs.size) { s with heap := s.heap.push { cls := .type "tuple", data := .seq (vs ++ ws).toArray } })
    (hsz : vs.length + ws.length ≤ sizeLine) : wpAny (model prog w) A (binaryOp .Add (.ref t) (.ref b)) Q E s := by
  obtain ⟨⟨cls, dd, data, sl⟩, ho, hc, n, hd⟩ := id ht
  obtain ⟨⟨cls2, dd2, data2, sl2⟩, ho2, hc2, n2, hd2⟩ := id hb
  simp only at hc hd hc2 hd2
  subst hc hd hc2 hd2
  have e : vs.toArray ++ ws.toArray = (vs ++ ws).toArray := by simp
  by_cases hw : ws = []
  · exact concat_meets ⟨_, ho, rfl⟩ ⟨_, ho2, rfl⟩ noFill_tuple_add seq_tuple_add PySem.F.slot_tuple_add PySem.F.entry_tuple_add (PySem.F.args_tuple_add_2 _ _)
      (tuple_addW1 t b vs.toArray ws.toArray n n2 dd dd2 sl sl2 (by simpa using hv) (by simp [hw])) ⟨ho, ho2, h1 hw⟩
  · refine concat_meets ⟨_, ho, rfl⟩ ⟨_, ho2, rfl⟩ noFill_tuple_add seq_tuple_add PySem.F.slot_tuple_add PySem.F.entry_tuple_add (PySem.F.args_tuple_add_2 _ _)
      (tuple_addW2 t b vs.toArray ws.toArray n n2 dd dd2 sl sl2 (by simpa using hv) (by simpa using hw) (by rw [List.size_toArray, List.size_toArray]; exact hsz)) ⟨ho, ho2, ?_⟩
    rw [e]
    exact h2 hw
def sIx (n d : Nat) : Option Int → Nat
  | none => d
  | some v => if v < 0 then (v + (n : Int)).toNat else min v.toNat n
end
end HT
namespace L2
open PySem PySem.Spec PyProof.Rows
abbrev TO := St → Hp → (Option Int → Hp → Prop) → Prop
def PO (X : Cx) (e : Option Expr) (t : TO) : Prop :=
  ∀ (pins : List (Addr × Obj)) (s : Shared) (σ : St) (H : Hp) (Q : Option Int → Hp → Prop), Inv X pins σ H s → t σ H Q →
    wpAny (model X.prog X.w) X.A (evalPart e X.env) (fun u s' => ∃ o H', Inv X pins σ H' s' ∧ IsPart u o ∧ Q o H') X.xe s
section
variable {X : Cx} {e : Expr} {te : TE} {lo hi : Option Expr} {tl th : TO} {pos p2 : Pos}
def SlR (X : Cx) (r : V → Option Int → Option Int → Hp → VK → Prop) : Prop :=
  ∀ (pins : List (Addr × Obj)) (s : Shared) (σ : St) (H : Hp) (x : V) (v vl vu : Value) (lo hi : Option Int) (sl : Addr) (Q : VK), Inv X pins σ H s → RelV x v → s.heap.IsSliceOf sl vl vu .none → IsPart vl lo → IsPart vu hi → r x lo hi H Q →
    ∃ T id, typeLookup (.type T) "__getitem__" = pure (some (.builtin id)) ∧ s.TypeIs v T ∧ wpAny (model X.prog X.w) X.A (getItem v (.ref sl)) (EP X pins σ Q) X.xe s
theorem SlR.or {r r' : V → Option Int → Option Int → Hp → VK → Prop} (h : SlR X r) (h' : SlR X r') : SlR X (fun x lo hi H Q => r x lo hi H Q ∨ r' x lo hi H Q) := by
  intro pins s σ H x v vl vu lo hi sl Q I rx hs pl pu q
  rcases q with q | q
  · exact h pins s σ H x v vl vu lo hi sl Q I rx hs pl pu q
  · exact h' pins s σ H x v vl vu lo hi sl Q I rx hs pl pu q
def rCatT (K : PySem.W.Frag) : R2 := fun x y H Q => ∃ a b xs ys, x = .ref a ∧ y = .ref b ∧ SqT K H a xs ∧ SqT K H b ys ∧ xs ≠ [] ∧ xs.length + ys.length ≤ sizeLine ∧
  (ys = [] → Q (.ref a) H) ∧ (ys ≠ [] → ∀ p, H p = none → Q (.ref p) (upd H p (.tup (xs ++ ys))))
theorem Vals.nil_iff {xs : List V} {us : List Value} (r : Vals xs us) : us = [] ↔ xs = [] := by
  cases r with
  | nil => simp
  | cons _ _ => simp
theorem op_catT : OpR X (binaryOp .Add) (rCatT X.K) := by
  intro pins s σ H x y v u Q I rx ry h
  obtain ⟨a, b, xs, ys, rfl, rfl, ha, hb, hx, hz, q1, q2⟩ := h
  cases rx
  cases ry
  obtain ⟨its, r1, p1, _⟩ := I.tuple ha
  obtain ⟨its2, r2, p2, _⟩ := I.tuple hb
  refine HT.cat_tup p1 p2 (fun z => hx (r1.nil_iff.mp z)) (fun z => ⟨.ref a, H, I, rfl, q1 (r2.nil_iff.mp z)⟩) (fun z => ?_) (by rw [← r1.length, ← r2.length]; exact hz)
  refine ⟨.ref s.heap.objs.size, _, I.laid (t' := s.toks) (o := .tup (xs ++ ys)) (fun b ob q => Heap.get?_push_of_some _ q) (Nat.le_refl _) ?_, rfl, q2 (fun w => z (r2.nil_iff.mpr w)) _ (I.hok.fresh (Nat.le_refl _))⟩
  exact ⟨by rw [List.length_append]; exact hz, _, r1.append r2, IsTup.new _ _⟩
end
end L2
namespace L2
open PySem PySem.Spec PyProof.Rows
def ixN (n : Nat) (i : Int) : Option Nat := if 0 ≤ i then (if i < n then some i.toNat else none) else if -(n : Int) ≤ i then some (i + n).toNat else none
def atI {α : Type} (xs : List α) (i : Int) : Option α := (ixN xs.length i).bind fun j => xs[j]?
theorem ixN_seq {n : Nat} {i : Int} {j : Nat} (h : ixN n i = some j) : seqIndex? i n = some j ∧ j < n ∧ -(n : Int) ≤ i ∧ i < n := by
  unfold ixN at h
  by_cases h0 : 0 ≤ i
  · rw [if_pos h0] at h
    by_cases h1 : i < n
    · rw [if_pos h1] at h
      have e : i.toNat = j := Option.some.inj h
      exact ⟨by rw [seqIndex_of h0 h1, e], by omega, by omega, h1⟩
    · rw [if_neg h1] at h; cases h
  · rw [if_neg h0] at h
    by_cases h1 : -(n : Int) ≤ i
    · rw [if_pos h1] at h
      have e : (i + n).toNat = j := Option.some.inj h
      exact ⟨by rw [seqIndex_neg (by omega) h1, e], by omega, h1, by omega⟩
    · rw [if_neg h1] at h; cases h
theorem atI_get {α : Type} {xs : List α} {i : Int} {v : α} (h : atI xs i = some v) : ∃ j, seqIndex? i xs.length = some j ∧ xs[j]? = some v ∧ j < xs.length ∧ -(xs.length : Int) ≤ i ∧ i < xs.length := by
  unfold atI at h
  cases e : ixN xs.length i with
  | none => rw [e] at h; cases h
  | some j =>
    rw [e] at h
    obtain ⟨h1, h2, h3, h4⟩ := ixN_seq e
    exact ⟨j, h1, h, h2, h3, h4⟩
theorem atI_nat {α : Type} {xs : List α} {j : Nat} {v : α} (h : xs[j]? = some v) : atI xs (j : Int) = some v := by
  have hj : j < xs.length := (List.getElem?_eq_some_iff.mp h).1
  have e : ixN xs.length (j : Int) = some j := by
    unfold ixN
    rw [if_pos (by omega), if_pos (by omega)]; simp
  unfold atI; rw [e]; exact h
def PlainIx (b : Expr) : Prop := ∀ o i, subscripted b false o i = operate [o, i] (getItem o i)
def IxR (X : Cx) (r : R2) : Prop :=
  ∀ (value slice : Expr) (pins : List (Addr × Obj)) (s : Shared) (σ : St) (H : Hp) (x y : V) (v u : Value) (Q : VK), Inv X pins σ H s → RelV x v → RelV y u → r x y H Q →
    subscripted slice false v u = operate [v, u] (getItem v u) → wpAny (model X.prog X.w) X.A (subscriptTail value slice v u) (EP X pins σ Q) X.xe s
def MtR (X : Cx) (id : String) (r : V → List V → Hp → VK → Prop) : Prop :=
  ∀ (pins : List (Addr × Obj)) (s : Shared) (σ : St) (H : Hp) (x : V) (xs : List V) (v : Value) (us : List Value) (Q : VK), Inv X pins σ H s → RelV x v → Vals xs us → r x xs H Q →
    wpAny (model X.prog X.w) X.A (call (.builtin id) (v :: us)) (EP X pins σ Q) X.xe s
section
variable {X : Cx} {a b : Expr} {ta tb : TE} {pos : Pos}
theorem IxR.or {r r' : R2} (h : IxR X r) (h' : IxR X r') : IxR X (fun x y H Q => r x y H Q ∨ r' x y H Q) := by
  intro value slice pins s σ H x y v u Q I rx ry q hs
  rcases q with q | q
  · exact h value slice pins s σ H x y v u Q I rx ry q hs
  · exact h' value slice pins s σ H x y v u Q I rx ry q hs
theorem MtR.or {id : String} {r r' : V → List V → Hp → VK → Prop} (h : MtR X id r) (h' : MtR X id r') : MtR X id (fun x xs H Q => r x xs H Q ∨ r' x xs H Q) := by
  intro pins s σ H x xs v us Q I rx rs q
  rcases q with q | q
  · exact h pins s σ H x xs v us Q I rx rs q
  · exact h' pins s σ H x xs v us Q I rx rs q
theorem pe_ix {r : R2} (hr : IxR X r) (ha : PE X a ta) (hb : PE X b tb) (hs : PlainIx b) : PE X (.Subscript a b pos) (tOp r ta tb) := by
  intro pins s σ H Q I h
  exact Subscript_ (binT ha hb I h fun v u s2 x y H2 I2 rx ry q => hr a b pins s2 σ H2 x y v u Q I2 rx ry q (hs _ _))
def rIxL (K : PySem.W.Frag) : R2 := fun x y H Q => ∃ p xs i v, x = .ref p ∧ y = .int i ∧ SqL K H p xs ∧ atI xs i = some v ∧ Q v H
def rIxT (K : PySem.W.Frag) : R2 := fun x y H Q => ∃ p xs i v, x = .ref p ∧ y = .int i ∧ SqT K H p xs ∧ atI xs i = some v ∧ Q v H
def rIxS : R2 := fun x y H Q => ∃ z i c, x = .str z ∧ y = .int i ∧ z.length ≤ sizeLine ∧ atI z.cps.toList i = some c ∧ Q (.str ⟨#[c]⟩) H
theorem ix_list : IxR X (rIxL X.K) := by
  intro value slice pins s σ H x y v u Q I rx ry h hs
  obtain ⟨p, xs, i, z, rfl, rfl, hq, he, q⟩ := h
  cases rx
  obtain ⟨t, rfl⟩ := ry
  obtain ⟨its, r, pl, hz⟩ := I.list hq
  obtain ⟨j, h1, h2, h3, h4, h5⟩ := atI_get he
  obtain ⟨w, ew, rw'⟩ := r.get h2
  have hl := r.length
  have hn := line63
  have fin : EP X pins σ Q w s := ⟨z, H, I, rw', q⟩
  by_cases h0 : 0 ≤ i
  · have hj : i.toNat = j := by
      rw [seqIndex_of h0 h5] at h1
      exact Option.some.inj h1
    exact item_listR pl.isList h0 (by omega) (by rw [hj]; simpa using ew) fin hs
  · have hj : (i + (its.toArray.size : Int)).toNat = j := by
      rw [seqIndex_neg (by omega) h4] at h1
      rw [List.size_toArray, ← hl]
      exact Option.some.inj h1
    exact subscriptTail_builtinR (x := w) pl.isList.typeIs slot_list_getitem.lookup
      (wpAny_getItem_list_neg (Q := fun r s' => r = w ∧ EP X pins σ Q r s') pl.isList (by omega) (by rw [List.size_toArray] <;> omega) (by omega) (by rw [hj]; simpa using ew) ⟨rfl, fin⟩) hs
theorem ix_tup : IxR X (rIxT X.K) := by
  intro value slice pins s σ H x y v u Q I rx ry h hs
  obtain ⟨p, xs, i, z, rfl, rfl, hq, he, q⟩ := h
  cases rx
  obtain ⟨t, rfl⟩ := ry
  obtain ⟨its, r, pl, hz⟩ := I.tuple hq
  obtain ⟨j, h1, h2, h3, h4, h5⟩ := atI_get he
  obtain ⟨w, ew, rw'⟩ := r.get h2
  have hl := r.length
  have hn := line63
  have fin : EP X pins σ Q w s := ⟨z, H, I, rw', q⟩
  exact subscriptTail_builtinR (x := w) pl.typeIs slot_tuple_getitem.lookup
    (getItem_tuple (j := j) (Q := fun r s' => r = w ∧ EP X pins σ Q r s') pl (by omega) (by omega) (by rw [List.size_toArray, ← hl]; exact h1) (by simpa using ew) ⟨rfl, fin⟩) hs
theorem ix_str : IxR X rIxS := by
  intro value slice pins s σ H x y v u Q I rx ry h hs
  obtain ⟨z, i, c, rfl, rfl, hz, he, q⟩ := h
  obtain ⟨t, rfl⟩ := rx
  obtain ⟨t', rfl⟩ := ry
  obtain ⟨j, h1, h2, h3, h4, h5⟩ := atI_get he
  have hl : z.cps.toList.length = z.length := by simp [Str.length]
  rw [hl] at h1 h4 h5
  have hn := line63
  exact tail_any (typeIs_str s z t) slot_str_getitem.lookup (getItem_str (c := c) (by
    have e1 : decide (i < -(2 ^ 63 : Int)) = false := decide_eq_false (by omega)
    have e2 : decide (i ≥ 2 ^ 63) = false := decide_eq_false (by omega)
    rw [e1, e2, Bool.or_false]) (by rw [h1]; simpa using h2) ⟨.str ⟨#[c]⟩, H, I.tok _, ⟨_, rfl⟩, q⟩) hs
def rIx (K : PySem.W.Frag) : R2 := fun x y H Q => rIxL K x y H Q ∨ rIxT K x y H Q ∨ rIxS x y H Q
theorem ix_seq : IxR X (rIx X.K) := ix_list.or (ix_tup.or ix_str)
theorem Inv.lst {pins : List (Addr × Obj)} {σ : St} {H : Hp} {s : Shared} {p : Addr} {xs : List V} (I : Inv X pins σ H s) (h : H p = some (.lst xs)) :
    ∃ (its : List Value) (n : Nat), Vals xs its ∧ s.heap.get? p = some { cls := .type "list", data := .seq its.toArray n } ∧ xs.length ≤ sizeLine := by
  obtain ⟨z, its, n, r, e⟩ := I.hok p _ h
  exact ⟨its, n, r, e, z⟩
def eqV : V → V → Bool
  | .non, .non => true
  | .bl a, .bl b => a == b
  | .bl a, .int b => (if a then 1 else 0) == b
  | .int a, .bl b => a == (if b then 1 else 0)
  | .int a, .int b => a == b
  | .str a, .str b => a == b
  | _, _ => false
def inV (x : V) (xs : List V) : Bool := xs.any fun y => eqV y x
theorem call_len_seq : CallR X (.builtin "len") (fun xs H Q => ∃ p ys, xs = [.ref p] ∧ (SqL X.K H p ys ∨ SqT X.K H p ys) ∧ Q (.int ys.length) H) := by
  intro pins s σ H xs us Q I r h
  obtain ⟨p, ys, rfl, hq, q⟩ := h
  obtain ⟨u, rfl, rx⟩ := vals1 r
  cases rx
  have hn := line63
  rcases hq with hq | hq
  · obtain ⟨its, r', pl, hz⟩ := I.list hq
    have hlen := r'.length
    exact Calls.call_len_list pl.isList (by simp only [List.size_toArray] <;> omega) ⟨.int ys.length, H, I.tok _, ⟨s.toks + 1, by rw [List.size_toArray, hlen]⟩, q⟩
  · obtain ⟨its, r', pl, hz⟩ := I.tuple hq
    have hlen := r'.length
    exact len_tuple pl (by simp only [List.size_toArray] <;> omega) ⟨.int ys.length, H, I.tok _, ⟨s.toks + 1, by rw [List.size_toArray, hlen]⟩, q⟩
theorem call_len_str : CallR X (.builtin "len") (fun xs H Q => ∃ z, xs = [.str z] ∧ z.length ≤ sizeLine ∧ Q (.int z.length) H) := by
  intro pins s σ H xs us Q I r h
  obtain ⟨z, rfl, hz, q⟩ := h
  obtain ⟨u, rfl, t, rfl⟩ := vals1 r
  have hn := line63
  exact len_str (by omega) ⟨.int z.length, H, I.tok _, ⟨_, rfl⟩, q⟩
theorem CallR.or {f : Value} {r r' : List V → Hp → VK → Prop} (h : CallR X f r) (h' : CallR X f r') : CallR X f (fun xs H Q => r xs H Q ∨ r' xs H Q) := by
  intro pins s σ H xs us Q I rs q
  rcases q with q | q
  · exact h pins s σ H xs us Q I rs q
  · exact h' pins s σ H xs us Q I rs q
theorem call_list_of : CallR X (.type "list") (fun xs H Q => ∃ p ys, xs = [.ref p] ∧ (SqL X.K H p ys ∨ SqT X.K H p ys) ∧ ∀ l, H l = none → Q (.ref l) (upd H l (.lst ys))) := by
  intro pins s σ H xs us Q I r h
  obtain ⟨p, ys, rfl, hq, q⟩ := h
  obtain ⟨u, rfl, rx⟩ := vals1 r
  cases rx
  have fin : ∀ (its : List Value), Vals ys its → ys.length ≤ sizeLine → ∀ (h' : Heap) (c' : Nat), (∀ b o', s.heap.get? b = some o' → h'.get? b = some o') →
      h'.get? s.heap.objs.size = some { cls := .type "list", dict := none, data := .seq its.toArray c', slots := #[] } → EP X pins σ Q (.ref s.heap.objs.size) { s with heap := h' } := fun its r' hz h' c' kp e =>
    ⟨.ref s.heap.objs.size, _, I.laid (t' := s.toks) kp (Nat.le_refl _) (show ObjOk X.prog X.w _ h' _ (.lst ys) from ⟨hz, its, c', r', e⟩), rfl, q _ (I.hok.fresh (Nat.le_refl _))⟩
  rcases hq with hq | hq
  · obtain ⟨its, r', pl, hz⟩ := I.list hq
    have hlen := r'.length
    obtain ⟨o, ho, hc, n, hd⟩ := pl.isList
    exact call_list_seq p (.inl rfl) ho hc hd (fun h' c' kp e => fin its r' hz h' c' kp e) (by simp only [List.size_toArray] <;> omega)
  · obtain ⟨its, r', pl, hz⟩ := I.tuple hq
    have hlen := r'.length
    obtain ⟨o, ho, hc, n, hd⟩ := pl
    exact call_list_seq p (.inr rfl) ho hc hd (fun h' c' kp e => fin its r' hz h' c' kp e) (by simp only [List.size_toArray] <;> omega)
theorem call_tuple_of : CallR X (.type "tuple") (fun xs H Q => ∃ p ys, xs = [.ref p] ∧ ((SqL X.K H p ys ∧ ∀ l, H l = none → Q (.ref l) (upd H l (.tup ys))) ∨ (SqT X.K H p ys ∧ Q (.ref p) H))) := by
  intro pins s σ H xs us Q I r h
  obtain ⟨p, ys, rfl, h⟩ := h
  obtain ⟨u, rfl, rx⟩ := vals1 r
  cases rx
  rcases h with ⟨hq, q⟩ | ⟨hq, q⟩
  · obtain ⟨its, r', pl, hz⟩ := I.list hq
    have hlen := r'.length
    refine call_tuple_list pl.isList (fun h' kp => ?_) (by simp only [List.size_toArray] <;> omega)
    have I1 : Inv X pins σ H { s with heap := h' } := I.kept (t' := s.toks) kp
    have I2 : Inv X pins σ (upd H h'.objs.size (.tup ys)) { s with heap := h'.push { cls := .type "tuple", data := .seq its.toArray } } :=
      I1.laid (t' := s.toks) (fun b o e => Heap.get?_push_of_some _ e) (Nat.le_refl _) (show ObjOk X.prog X.w _ _ _ (.tup ys) from ⟨hz, its, r', IsTup.new _ _⟩)
    exact ⟨.ref h'.objs.size, _, I2, rfl, q _ (I1.hok.fresh (Nat.le_refl _))⟩
  · obtain ⟨its, r', pl, hz⟩ := I.tuple hq
    exact call_tuple_same pl ⟨.ref p, H, I, rfl, q⟩
def tyV (K : PySem.W.Frag) (T : String) (x : V) (H : Hp) : Prop := match x with
  | .str _ => T = "str"
  | .int _ => T = "int"
  | .ref p => (T = "list" ∧ ∃ xs, SqL K H p xs) ∨ (T = "tuple" ∧ ∃ o, K.lookup p = some o ∧ o.cls = .type "tuple" ∧ o.dict = none) ∨
      (T = "dict" ∧ ((∃ kvs, H p = some (.dK kvs)) ∨ ∃ kvs, H p = some (.dT kvs))) ∨ (T = "set" ∧ ∃ S n, H p = some (.set S n))
  | _ => False
theorem tyV_is {pins : List (Addr × Obj)} {σ : St} {H : Hp} {s : Shared} {T : String} {x : V} {v : Value} (I : Inv X pins σ H s) (r : RelV x v) (ty : tyV X.K T x H) :
    s.TypeIs v T ∧ ∀ a, v = .ref a → ∃ ob, s.heap.get? a = some ob ∧ ob.dict = none := by
  cases x with
  | str z =>
    obtain ⟨t, rfl⟩ := r
    cases (show T = "str" from ty)
    exact ⟨typeIs_str s z t, fun _ e => nomatch e⟩
  | int i =>
    obtain ⟨t, rfl⟩ := r
    cases (show T = "int" from ty)
    exact ⟨typeIs_int s i t, fun _ e => nomatch e⟩
  | ref p =>
    cases r
    rcases ty with ⟨rfl, xs, hq⟩ | ⟨rfl, o, hk, hc, hd⟩ | ⟨rfl, hk⟩ | ⟨rfl, S, n, hk⟩
    · obtain ⟨its, _, pl, _⟩ := I.list hq
      refine ⟨pl.isList.typeIs, fun a e => ?_⟩
      cases e
      obtain ⟨o, n, e, c, hd, _⟩ := pl
      exact ⟨o, e, hd⟩
    · refine ⟨⟨o, I.kIn p o hk, hc⟩, fun a e => ?_⟩
      cases e
      exact ⟨o, I.kIn _ o hk, hd⟩
    · have z : ∃ o, s.heap.get? p = some o ∧ o.ExactDict := by
        rcases hk with ⟨kvs, hk⟩ | ⟨kvs, hk⟩
        · obtain ⟨_, _, _, _, o, _, _, e, ex, _⟩ := I.hok p _ hk
          exact ⟨o, e, ex⟩
        · obtain ⟨_, _, _, _, o, _, _, e, ex, _⟩ := I.hok p _ hk
          exact ⟨o, e, ex⟩
      obtain ⟨o, e, ex⟩ := z
      refine ⟨⟨o, e, ex.1⟩, fun a e2 => ?_⟩
      cases e2
      exact ⟨o, e, ex.2.1⟩
    · obtain ⟨o, _, _, _, e, ex, _⟩ := I.hok p _ hk
      refine ⟨⟨o, e, ex.1⟩, fun a e2 => ?_⟩
      cases e2
      exact ⟨o, e, ex.2.1⟩
  | _ => exact False.elim ty
def tBM0 (K : PySem.W.Frag) (T : String) (r : V → List V → Hp → VK → Prop) (to : TE) : TE := fun σ H Q => to σ H fun x H1 => tyV K T x H1 ∧ r x [] H1 Q
def tBM (K : PySem.W.Frag) (T : String) (r : V → List V → Hp → VK → Prop) (to : TE) (t : TA) : TE := fun σ H Q => to σ H fun x H1 => tyV K T x H1 ∧ t σ H1 fun xs H2 => r x xs H2 Q
variable {o e : Expr} {es : List Expr} {to : TE} {t : TA} {name : Str} {apos cpos : Pos} {T id : String} {r : V → List V → Hp → VK → Prop}
theorem pe_bm0 (pa : PlainAttrs T) (slot : Slot T name id) (hty : typeOf (.builtin id) = pure (.type "method_descriptor")) (hm : MtR X id r) (ho : PE X o to)
    (hbase : attributeBase o name X.env (eval o X.env) = eval o X.env := by rfl) (hline : (apos.endLine == cpos.line) = true := by rfl) : PE X (.Call (.Attribute o name apos) [] [] cpos) (tBM0 X.K T r to) := by
  intro pins s σ H Q I h
  refine wpAny_Call_method0_late hbase hline (thn (ho pins s σ H _ I h) fun v s1 ⟨x, H1, I1, r1, ty, q1⟩ => ?_)
  obtain ⟨h1, h2⟩ := tyV_is I1 r1 ty
  exact ⟨T, id, pa, slot, hty, h1, h2, Calls.callWith_builtin rfl (PySem.evalArgs_none (hm pins s1 σ H1 x [] v [] Q I1 r1 .nil q1))⟩
theorem pe_bm (pa : PlainAttrs T) (slot : Slot T name id) (hty : typeOf (.builtin id) = pure (.type "method_descriptor")) (hm : MtR X id r) (ho : PE X o to) (ha : PA X (e :: es) t)
    (hbase : attributeBase o name X.env (eval o X.env) = eval o X.env := by rfl)
    (hfew : ((backTo cpos (starEach (e :: es) X.env)).all (fun x => !x.1) && (backToKw cpos (keywordEach [] X.env)).all (fun x => x.1.isSome)
      && decide ((e :: es).length + ([] : List Keyword).length + (if ([] : List Keyword).isEmpty then 0 else 1) < 30)) = true := by rfl)
    (hline : (apos.endLine == cpos.line) = true := by rfl) (hs : starEach (e :: es) X.env = (false, eval e X.env) :: starEach es X.env := by rfl) (hplain : (backTo cpos (starEach es X.env)).any (·.1) = false := by rfl) :
    PE X (.Call (.Attribute o name apos) (e :: es) [] cpos) (tBM X.K T r to t) := by
  intro pins s σ H Q I h
  refine wpAny_Call_method_late hbase hfew hline rfl (thn (ho pins s σ H _ I h) fun v s1 ⟨x, H1, I1, r1, ty, q1⟩ => ?_)
  obtain ⟨h1, h2⟩ := tyV_is I1 r1 ty
  refine ⟨T, id, pa, slot, hty, h1, h2, ?_⟩
  have hA := ha cpos pins s1 σ H1 _ I1 q1
  rw [hs] at hA ⊢
  refine Calls.callWith_builtin (by show (false || (backTo cpos (starEach es X.env)).any (·.1)) = false; rw [hplain] <;> rfl) (Calls.evalArgs_plain ?_)
  exact thn hA fun us s2 ⟨vs, H2, I2, r2, q2⟩ => hm pins s2 σ H2 x vs v us Q I2 r1 r2 q2
/- xs.append(e), list.index on a module's tuple .. are MtR facts of 06m -/
end
end L2
namespace L2
open PySem PySem.Spec PyProof.Rows
def MtM (X : Cx) (id : String) (r : V → List V → Hp → VK → Prop) : Prop :=
  ∀ (pins : List (Addr × Obj)) (s : Shared) (σ : St) (H : Hp) (x : V) (xs : List V) (v : Value) (us : List Value) (Q : VK), Inv X pins σ H s → RelV x v → Vals xs us → r x xs H Q →
    wpAny (model X.prog X.w) X.A (call (.builtin id) (v :: us)) (EP X pins σ Q) X.xe s
theorem Vals.one : ∀ {x : V} {us : List Value}, Vals [x] us → ∃ u, us = [u] ∧ RelV x u
  | _, _, .cons r .nil => ⟨_, rfl, r⟩
theorem Vals.two : ∀ {x y : V} {us : List Value}, Vals [x, y] us → ∃ u v, us = [u, v] ∧ RelV x u ∧ RelV y v
  | _, _, _, .cons r (.cons q .nil) => ⟨_, _, rfl, r, q⟩
theorem Vals.zero : ∀ {us : List Value}, Vals [] us → us = []
  | _, .nil => rfl
theorem Vals.dropLast {xs : List V} {us : List Value} (h : Vals xs us) : Vals xs.dropLast us.dropLast := by
  induction h with
  | nil => exact .nil
  | cons r t ih =>
    cases t with
    | nil => exact .nil
    | cons q t' => exact .cons r ih
theorem Vals.eraseIdx : ∀ {xs : List V} {us : List Value} (i : Nat), Vals xs us → Vals (xs.eraseIdx i) (us.eraseIdx i)
  | _, _, _, .nil => .nil
  | _, _, 0, .cons _ t => t
  | _, _, i + 1, .cons r t => .cons r (Vals.eraseIdx i t)
theorem Vals.reverse {xs : List V} {us : List Value} (h : Vals xs us) : Vals xs.reverse us.reverse := by
  induction h with
  | nil => exact .nil
  | cons r t ih => rw [List.reverse_cons, List.reverse_cons]; exact Vals.append ih (.cons r .nil)
theorem Vals.rep {xs : List V} {us : List Value} (h : Vals xs us) : ∀ k : Nat, Vals (List.replicate k xs).flatten (List.replicate k us).flatten
  | 0 => .nil
  | k + 1 => by
    rw [List.replicate_succ, List.replicate_succ, List.flatten_cons, List.flatten_cons]
    exact Vals.append h (Vals.rep h k)
theorem erase_last {α : Type} (l : List α) : l.eraseIdx (l.length - 1) = l.dropLast := by
  induction l with
  | nil => rfl
  | cons a r ih =>
    cases r with
    | nil => rfl
    | cons b r =>
      have e : (a :: b :: r).length - 1 = ((b :: r).length - 1) + 1 := by
        have h1 : (a :: b :: r).length = r.length + 2 := rfl
        have h2 : (b :: r).length = r.length + 1 := rfl
        omega
      rw [e, List.eraseIdx_cons_succ, ih]
      all_goals rfl
theorem len_erase {α : Type} : ∀ (l : List α) (i : Nat), (l.eraseIdx i).length ≤ l.length
  | [], _ => Nat.le_refl _
  | _ :: _, 0 => Nat.le_succ _
  | _ :: r, i + 1 => Nat.succ_le_succ (len_erase r i)
theorem foldl_rep (its : List Value) : ∀ (k : Nat) (acc : List Value),
    List.foldl (fun x1 x2 => x1 ++ x2) acc.toArray (List.replicate k its.toArray) = (acc ++ (List.replicate k its).flatten).toArray
  | 0, acc => by simp
  | k + 1, acc => by
    have e : acc.toArray ++ its.toArray = (acc ++ its).toArray := by simp
    have e2 : (acc ++ its) ++ (List.replicate k its).flatten = acc ++ (List.replicate (k + 1) its).flatten := by
      rw [List.replicate_succ, List.flatten_cons, List.append_assoc]
    rw [← e2, ← foldl_rep its k (acc ++ its), ← e, List.replicate_succ, List.foldl_cons]
section
variable {X : Cx} {pins : List (Addr × Obj)} {σ : St} {H : Hp} {s : Shared} {l b : Addr} {xs ys zs : List V}
theorem Inv.lset {its its' : List Value} {n : Nat} {f : Array Value → Array Value} {t' : Nat} (I : Inv X pins σ H s) (hH : H l = some (.lst xs))
    (e : s.heap.get? l = some { cls := .type "list", data := .seq its.toArray n }) (hf : f its.toArray = its'.toArray) (hv : Vals ys its') (hz : ys.length ≤ sizeLine) :
    Inv X pins σ (upd H l (.lst ys)) { s with heap := s.heap.update l (Obj.mapSeq f), toks := t' } := by
  have q := PySem.IsL.update e f
  rw [hf] at q
  refine I.write (x := l) (e := l) (by rw [hH]; exact trivial) (.inl rfl) (fun b' u hb hu => (Heap.get?_update_other s.heap (Obj.mapSeq f) (Ne.symm hb)).trans hu) ⟨_, q⟩ ?_
  exact ⟨hz, its', _, hv, q⟩
theorem Inv.lnew {its : List Value} {t' : Nat} (I : Inv X pins σ H s) (hv : Vals ys its) (hz : ys.length ≤ sizeLine) :
    Inv X pins σ (upd H s.heap.objs.size (.lst ys)) { s with heap := s.heap.push { cls := .type "list", data := .seq its.toArray }, toks := t' } :=
  I.laid (fun _ _ q => Heap.get?_push_of_some _ q) (Nat.le_refl _) ⟨hz, its, 0, hv, Heap.get?_push_size _ rfl⟩
theorem Inv.fresh (I : Inv X pins σ H s) : H s.heap.objs.size = none := I.hok.fresh (Nat.le_refl _)
theorem Inv.lstM (I : Inv X pins σ H s) (hH : H l = some (.lst xs)) : xs.length ≤ sizeLine ∧ ∃ (its : List Value) (n : Nat), Vals xs its ∧ xs.length = its.length ∧ s.heap.get? l = some { cls := .type "list", data := .seq its.toArray n } := by
  obtain ⟨z, its, n, r, e⟩ := I.hok l _ hH
  exact ⟨z, its, n, r, r.length, e⟩
theorem notLongL {n : Nat} (h : n ≤ sizeLine) : Builtin.List.listTooLong n = false := by
  unfold Builtin.List.listTooLong
  exact decide_eq_false (by omega)
end
section
variable {X : Cx}
def rAppend : V → List V → Hp → VK → Prop := fun x vs H Q => ∃ l xs y, x = .ref l ∧ vs = [y] ∧ H l = some (.lst xs) ∧ xs.length < sizeLine ∧ Q .non (upd H l (.lst (xs ++ [y])))
theorem mt_append : MtM X "list.append" rAppend := by
  intro pins s σ H x vs v us Q I rx rv h
  obtain ⟨l, xs, y, rfl, rfl, hH, hz, q⟩ := h
  cases rx
  obtain ⟨u, rfl, ru⟩ := rv.one
  obtain ⟨z, its, n, r, hl, e⟩ := I.lstM hH
  refine call_meets F.slot_list_append ⟨_, e, rfl⟩ F.entry_list_append (F.args_list_append_2 _ _) (PySem.list_append l its.toArray n u (by rw [List.size_toArray]; omega)) ⟨e, ?_⟩
  refine ⟨.non, _, I.lset (its' := its ++ [u]) hH e (by simp) (r.append (.cons ru .nil)) ?_, rfl, q⟩
  rw [List.length_append, List.length_singleton]
  omega
def rPop : V → List V → Hp → VK → Prop := fun x vs H Q => ∃ l xs y, x = .ref l ∧ vs = [] ∧ H l = some (.lst xs) ∧ xs[xs.length - 1]? = some y ∧ Q y (upd H l (.lst xs.dropLast))
theorem mt_pop : MtM X "list.pop" rPop := by
  intro pins s σ H x vs v us Q I rx rv h
  obtain ⟨l, xs, y, rfl, rfl, hH, hy, q⟩ := h
  cases rx
  have hus := rv.zero
  subst hus
  obtain ⟨z, its, n, r, hl, e⟩ := I.lstM hH
  obtain ⟨u, hu, ru⟩ := r.get hy
  have hy' : its.toArray[its.toArray.size - 1]? = some u := by
    show its.toArray[its.length - 1]? = some u
    rw [← Array.getElem?_toList, ← hl]
    exact hu
  refine call_meets F.slot_list_pop ⟨_, e, rfl⟩ F.entry_list_pop (F.args_list_pop_1 _) (MeetsSeq.list_pop_last l its.toArray n u hy' (by rw [List.size_toArray]; omega)) ⟨e, ?_⟩
  refine ⟨y, _, I.lset (its' := its.dropLast) hH e ?_ r.dropLast ?_, ru, q⟩
  · show its.toArray.eraseIdxIfInBounds (its.toArray.size - 1) = its.dropLast.toArray
    rw [List.size_toArray, List.eraseIdxIfInBounds_toArray, erase_last]
  · rw [List.length_dropLast]
    omega
def rPopAt : V → List V → Hp → VK → Prop := fun x vs H Q => ∃ l xs i k y, x = .ref l ∧ vs = [.int i] ∧ H l = some (.lst xs) ∧ -(2 ^ 63) ≤ i ∧ i < 2 ^ 63 ∧ seqIndex? i xs.length = some k ∧ xs[k]? = some y ∧ Q y (upd H l (.lst (xs.eraseIdx k)))
theorem mt_popAt : MtM X "list.pop" rPopAt := by
  intro pins s σ H x vs v us Q I rx rv h
  obtain ⟨l, xs, i, k, y, rfl, rfl, hH, h1, h2, hk, hy, q⟩ := h
  cases rx
  obtain ⟨u, rfl, ru⟩ := rv.one
  obtain ⟨t, rfl⟩ := ru
  obtain ⟨z, its, n, r, hl, e⟩ := I.lstM hH
  obtain ⟨w, hw, rw'⟩ := r.get hy
  refine call_meets F.slot_list_pop ⟨_, e, rfl⟩ F.entry_list_pop (F.args_list_pop_2 _ _)
    (MeetsSeq.list_pop_at l its.toArray n i t k w (fitsIndex_both h1 h2) (by rw [List.size_toArray, ← hl]; exact hk) (by rw [← Array.getElem?_toList]; exact hw) (by rw [List.size_toArray]; omega)) ⟨e, ?_⟩
  refine ⟨y, _, I.lset (its' := its.eraseIdx k) hH e ?_ (r.eraseIdx k) ?_, rw', q⟩
  · show its.toArray.eraseIdxIfInBounds k = (its.eraseIdx k).toArray
    rw [List.eraseIdxIfInBounds_toArray]
  · have := len_erase xs k
    omega
def rClear : V → List V → Hp → VK → Prop := fun x vs H Q => ∃ l xs, x = .ref l ∧ vs = [] ∧ H l = some (.lst xs) ∧ Q .non (upd H l (.lst []))
theorem mt_clear : MtM X "list.clear" rClear := by
  intro pins s σ H x vs v us Q I rx rv h
  obtain ⟨l, xs, rfl, rfl, hH, q⟩ := h
  cases rx
  have hus := rv.zero
  subst hus
  obtain ⟨z, its, n, r, hl, e⟩ := I.lstM hH
  refine call_meets F.slot_list_clear ⟨_, e, rfl⟩ F.entry_list_clear (F.args_list_clear_1 _) (AutoSeq1.list_clear_list_0 l its.toArray n (by rw [List.size_toArray]; omega)) ⟨e, ?_⟩
  exact ⟨.non, _, I.lset (its' := []) (ys := []) hH e rfl .nil (Nat.zero_le _), rfl, q⟩
def rCat : R2 := fun x y H Q => ∃ l b xs zs, x = .ref l ∧ y = .ref b ∧ H l = some (.lst xs) ∧ H b = some (.lst zs) ∧ xs.length + zs.length ≤ sizeLine ∧ ∀ p, H p = none → Q (.ref p) (upd H p (.lst (xs ++ zs)))
theorem op_cat : OpR X (binaryOp .Add) rCat := by
  intro pins s σ H x y v u Q I rx ry h
  obtain ⟨l, b, xs, zs, rfl, rfl, hH, hB, hz, q⟩ := h
  cases rx
  cases ry
  obtain ⟨z, its, n, r, hl, e⟩ := I.lstM hH
  obtain ⟨z2, its2, n2, r2, hl2, e2⟩ := I.lstM hB
  refine PySem.P.add_list e e2 ?_ (by rw [List.size_toArray, List.size_toArray]; omega)
  have ea : its.toArray ++ its2.toArray = (its ++ its2).toArray := by simp
  rw [ea]
  exact ⟨.ref _, _, I.lnew (t' := s.toks) (r.append r2) (by rw [List.length_append]; omega), rfl, q _ I.fresh⟩
def rRep : R2 := fun x y H Q => ∃ l k xs, x = .ref l ∧ y = .int k ∧ H l = some (.lst xs) ∧ -(2 ^ 63) ≤ k ∧ k < 2 ^ 63 ∧ xs.length * k.toNat ≤ sizeLine ∧
  ∀ p, H p = none → Q (.ref p) (upd H p (.lst (List.replicate k.toNat xs).flatten))
theorem len_rep {α : Type} (xs : List α) (k : Nat) : (List.replicate k xs).flatten.length = k * xs.length := by
  induction k with
  | zero => simp
  | succ k ih => rw [List.replicate_succ, List.flatten_cons, List.length_append, ih, Nat.succ_mul, Nat.add_comm]
theorem op_rep : OpR X (binaryOp .Mult) rRep := by
  intro pins s σ H x y v u Q I rx ry h
  obtain ⟨l, k, xs, rfl, rfl, hH, h1, h2, hz, q⟩ := h
  cases rx
  obtain ⟨t, rfl⟩ := ry
  obtain ⟨z, its, n, r, hl, e⟩ := I.lstM hH
  have hlen : its.toArray.size * k.toNat ≤ sizeLine := by rw [List.size_toArray, ← hl]; exact hz
  have hcap : ¬ its.toArray.size * k.toNat > (2 ^ 63 - 1) / 8 := by
    have : (sizeLine : Nat) ≤ (2 ^ 63 - 1) / 8 := by decide
    omega
  have hfit : ¬ (!Builtin.List.listFitsIndex k) = true := by
    rw [fitsIndex_both h1 h2]
    exact Bool.false_ne_true
  have hlong : ¬ Builtin.List.listTooLong (its.toArray.size * k.toNat) = true := by
    rw [notLongL hlen]
    exact Bool.false_ne_true
  have hnew : List.foldl (fun x1 x2 => x1 ++ x2) #[] (List.replicate (if its.toArray.isEmpty = true then 0 else k.toNat) its.toArray) = (List.replicate k.toNat its).flatten.toArray := by
    have f0 : ∀ m : Nat, List.foldl (fun x1 x2 => x1 ++ x2) #[] (List.replicate m its.toArray) = (List.replicate m its).flatten.toArray := fun m => by
      have := foldl_rep its m []
      rw [List.nil_append] at this
      exact this
    rw [f0]
    cases its with
    | nil => simp
    | cons a r' => rw [if_neg (by simp)]
  refine wpAny_binaryOp_repeat_ref (T := "list") (U := "int") (by decide) ⟨_, e, rfl⟩ (fun s' => typeIs_int s' k t) noFill_list_mul F.fills_int_mul F.slot_int_rmul repeat_list F.slot_int_index.lookup
    (call_meets F.slot_int_rmul (typeIs_int s k t) F.entry_int_rmul (F.args_int_rmul_2 _ _) (int___rmul___int_list k t l its.toArray n)
      ⟨e, rfl, ⟨_, e, rfl⟩, call_meets F.slot_list_mul ⟨_, e, rfl⟩ F.entry_list_mul (F.args_list_mul_2 _ _) (AutoListH.list___mul___list_int_3 l its.toArray n k t hfit hcap hlong) ⟨e, ?_⟩⟩)
  rw [hnew]
  exact ⟨.ref _, _, I.lnew (t' := s.toks) (r.rep k.toNat) (by rw [len_rep, Nat.mul_comm]; exact hz), rfl, q _ I.fresh⟩
end
section
variable {prog : Program} {w : World} {A : Around} {E : Value → Shared → Prop} {s : Shared}
end
section
variable {X : Cx}
end
end L2
namespace Att
open PySem PySem.W PySem.Calls PyProof.Rows
theorem ints_of_wellAll {P : Params} {h : Heap} : ∀ (ns : List Int) (vs : List Value), WellAll P h vs (ns.map WData.int) → IntsAre vs ns := by
  intro ns
  induction ns with
  | nil =>
    intro vs w
    rw [List.map_nil] at w
    cases w
    exact .nil
  | cons n ns ih =>
    intro vs w
    rw [List.map_cons] at w
    cases w with
    | cons a b =>
      cases a
      exact .cons _ _ (ih _ b)
theorem script_of {l : OpenLaw} {n : Nat} (hn : l.most = some n) {P : Params} {h : Heap} {args : List WData} {vals : List Value}
    (hpre : l.row.toRowW.claim.pre args = true) (hwl : WellAll P h vals args) :
    ∃ a vs ns, vals = [Value.ref a] ∧ args = [WData.list (ns.map WData.int)] ∧ h.get? a = some { cls := .type "list", data := .seq vs.toArray } ∧ IntsAre vs ns ∧ ns.length ≤ n := by
  have hsh : WShape.hasAll [] args [.list .int] = true := (pre_splitW hpre).1
  have hc : l.pre.holds [] { args := args } = true := (pre_splitW hpre).2
  obtain ⟨d, r, rfl, h1, h2⟩ := hasAllW_cons hsh
  obtain rfl := hasAllW_nil h2
  obtain ⟨xs, rfl, h3⟩ := hasW_list h1
  obtain ⟨ns, rfl⟩ := items_int h3
  have hlen : ns.length ≤ n := by
    unfold OpenLaw.pre at hc
    have h4 : (WTm.not (.lt (.lit (.int (n : Int))) (.len (.arg 0)))).holds [] { args := [.list (ns.map .int)] } = true := by
      have h4 := (holds_andW hc).1
      rw [hn] at h4
      exact h4
    have h5 := condW_of h4 (w_not (w_lt w_lit (w_len_list (w_arg rfl))))
    rw [List.length_map] at h5
    refine Nat.le_of_not_lt fun q => ?_
    have q' : (n : Int) < ((ns.length : Nat) : Int) := by omega
    first
      | (rw [decide_eq_true q'] at h5; exact absurd h5 (by decide))
      | (simp at h5; omega)
  cases hwl with
  | cons w1 w2 =>
    cases w2
    cases w1 with
    | list ho hall => exact ⟨_, _, ns, rfl, rfl, ho, ints_of_wellAll ns _ hall, hlen⟩
theorem post_true (l : OpenLaw) (args : List WData) : l.row.toRowW.claim.post args (.bool true) args = true :=
  postW_of (r := l.row.toRowW) (X := (true == true))
    (show WShape.has [] (.bool true) .bool = true by first | rfl | decide | simp [WShape.has, WShape.arms, WShape.armsAll])
    (show (WTm.eq .res (.lit (.bool true))).value [] { args := args, res := some (.bool true), after := args } = some (.bool (true == true)) from w_eq_bool (w_res rfl) w_lit) rfl
theorem attach_call {l : OpenLaw} {n : Nat} {q : Program} {loose : List Str} {XP : (Str → Option Value) → Heap → Prop} {YP : World → Heap → Prop} {d : DefRec}
    (hn : l.most = some n) (hdf : d.params.defaults = [])
    (call : ∀ (w : World) (s₀ s₁ : Shared) (mg mb : Str → Option Value) (fa : Addr) (o : Obj) (pm cd doc : Value) (a : Addr) (vs : List Value) (ns : List Int),
      Ground q loose [] XP w s₀ mg mb s₁.heap → YP w s₁.heap →
      s₁.heap.get? fa = some o → o.data = .func (docDef d.name d.params d.body d.scope pm cd doc) → s₁.heap.CodeRec cd d.name → mg d.name = some (.ref fa) →
      s₁.heap.get? a = some { cls := .type "list", data := .seq vs.toArray } → IntsAre vs ns → ns.length ≤ n → s₁.gens = #[] →
      codeAny (model l.prog w) callerA (.call (.ref fa) ⟨[.ref a], []⟩) (fun r s' => r = .ok (.ret (.bool true)) ∧ OldK s₁.heap s'.heap ∧ s'.os = s₁.os ∧ AllBare s'.gens) s₁) :
    WalkO q loose XP YP l.row.toRowW d [] (fun f vs => PySem.call f vs) := by
  intro w s₀ s₁ mg mb G Y fa o pm cd doc dV kV ho hd hcd hD hmg hg args vals as hpre hlay hrd hwl hlo
  obtain rfl : dV = .none := Dflts.none hD hdf
  obtain rfl : kV = .none := Dflts.noKw hD
  obtain ⟨a, vs, ns, rfl, rfl, hobj, hints, hlen⟩ := script_of hn hpre hwl
  refine enter_call (codeAny_mono (call w s₀ s₁ mg mb fa o pm cd doc a vs ns G Y ho (fd_plain hd) hcd hmg hobj hints hlen hg) fun r s' hq => ?_)
  obtain ⟨rfl, h2, h3, h4⟩ := hq
  exact ⟨.inl ⟨.bool true, .bool true, [], rfl, fun _ => rfl, .bool true, post_true l _, fun _ => ⟨List.Pairwise.nil, fun _ hm => (nomatch hm)⟩⟩, h2, h3, h4⟩
section
variable {prog : Program} {w : World} {A : Around} {E : Value → Shared → Prop} {s : Shared} {K : Frag}
end
end Att
namespace L2
open PySem PySem.Spec PyProof.Rows
theorem vals_ints : ∀ {vs : List Value} {ns : List Int}, IntsAre vs ns → Vals (ns.map V.int) vs
  | _, _, .nil => .nil
  | _, _, .cons n t h => .cons ⟨t, rfl⟩ (vals_ints h)
def Only (H : Hp) : Prop := ∀ b, H b = none ∨ ∃ o xs, H b = some (.frz o (.lst xs))
theorem law_call {P : Program} {w : World} {K : PySem.W.Frag} {mg mb : Str → Option Value} {CX : CXT} {k : Nat} {fa a : Addr} {fd : FuncData} {x : Str} {sp : Sp} {s₁ : Shared} {vs : List Value} {ns : List Int}
    (KX : K.In s₁.heap) (hns : s₁.heap.Ns mainGlobals mg) (hb : s₁.heap.Ns builtinsNs mb) (hbb : ∀ x : Str, x ≠ "__name__" → mb x = bootBuiltins x) (hlim : s₁.heap.NoLimit) (hg : s₁.gens = #[])
    (ha : s₁.heap.get? a = some { cls := .type "list", data := .seq vs.toArray }) (hi : IntsAre vs ns) (hl : ns.length ≤ sizeLine) (hr : Room k callerA)
    (F : ∀ base : Heap, K.In base → base.Ns mainGlobals mg → FnOk P w K mg base CX k fa fd [x] sp) (hbind : ∀ (s : Shared) (u : Value), BindsTo s fd ⟨[u], []⟩ [(x, u)])
    (hsp : ∀ H : Hp, Only H → SqL K H a (ns.map V.int) → sp [.ref a] H (fun v _ => v = .bl true) fun _ _ _ => False)
    (hCX : ∀ H e s', CX [] H s₁ (fun _ _ _ => False) e s' → False) :
    codeAny (model P w) callerA (.call (.ref fa) ⟨[.ref a], []⟩) (fun r s' => r = .ok (.ret (.bool true)) ∧ OldK s₁.heap s'.heap ∧ s'.os = s₁.os ∧ AllBare s'.gens) s₁ := by
  have rv := vals_ints hi
  have lenV := hi.length
  have core : ∀ H : Hp, Only H → SqL K H a (ns.map V.int) → HOk P w H s₁.heap → (∀ b, H b ≠ none → b = a) → (H a ≠ none → K.lookup a = none) →
      codeAny (model P w) callerA (.call (.ref fa) ⟨[.ref a], []⟩) (fun r s' => r = .ok (.ret (.bool true)) ∧ OldK s₁.heap s'.heap ∧ s'.os = s₁.os ∧ AllBare s'.gens) s₁ := by
    intro H hO hS hok hA hK
    have base_of : ∀ {b : Addr} {o : Obj}, s₁.heap.get? b = some o → H b = none → (hidT s₁.heap H).get? b = some o := fun e n => hidT_get e n
    have noA : ∀ {b : Addr} {o : Obj} {es : Array DictEntry} {ep : Nat}, s₁.heap.get? b = some o → o.data = .dict es ep → H b = none := fun {b o es ep} e d => by
      cases q : H b with
      | none => rfl
      | some u =>
        have e' : b = a := hA b (by rw [q]; simp)
        subst e'
        rw [ha] at e; cases e
        have d' : Data.seq vs.toArray _ = Data.dict es ep := d
        cases d'
    have nsK : ∀ {b : Addr} {m : Str → Option Value}, s₁.heap.Ns b m → (hidT s₁.heap H).Ns b m := fun {b m} ⟨o, es, ep, e, d, r⟩ => ⟨o, es, ep, base_of e (noA e d), d, r⟩
    have hKb : K.In (hidT s₁.heap H) := fun b o e => base_of (KX b o e) (by
      cases q : H b with
      | none => rfl
      | some u =>
        have e' : b = a := hA b (by rw [q]; simp)
        subst e'
        rw [hK (by rw [q]; simp)] at e; cases e)
    have hM : Mod K mg (hidT s₁.heap H) := ⟨hKb, nsK hns, ⟨mb, nsK hb, hbb⟩, let ⟨mc, h1, h2⟩ := hlim; ⟨mc, nsK h1, h2⟩⟩
    have e0 : Env0 P w K mg (hidT s₁.heap H) callerA [] s₁ H := ⟨rfl, hM, fun b o e => of_hidT e, Nat.le_of_eq (hidT_size _ _), trivial, fun b hb => absurd (show b ∈ ([] : List Addr) from hb) (by simp), hok, .of_eq hg⟩
    refine codeAny_mono ((F _ hKb (nsK hns)).run callerA [] s₁ H ⟨[.ref a], []⟩ [.ref a] [.ref a] _ _ hr e0 (hbind s₁ (.ref a)) (.cons rfl .nil) (hsp H hO hS)) fun r s' h => ?_
    cases r with
    | error e => exact (hCX H e s' h).elim
    | ok fl =>
      cases fl with
      | next => exact False.elim h
      | brk => exact False.elim h
      | cont => exact False.elim h
      | ret u =>
        obtain ⟨v, H', os, bare, un, hok', r', q⟩ := h
        have q' : v = .bl true := q
        subst q'
        obtain rfl : u = Value.bool true := r'
        refine ⟨rfl, OldK.of_keep fun b o e => ?_, os, bare⟩
        cases q : H b with
        | none => exact un.keep b o e q (by intro z; exact absurd (show b ∈ ([] : List Addr) from z) (by simp)) (by simp)
        | some u =>
          rcases hO b with z | ⟨ob, xs, z⟩
          · rw [q] at z; cases z
          · have z2 := un.frzs b ob _ z
            obtain ⟨e1, _⟩ := hok b _ z
            obtain ⟨e2, _⟩ := hok' b _ z2
            rw [e] at e1; cases e1
            exact e2
  cases hk : K.lookup a with
  | some o =>
    have e := KX a o hk
    rw [ha] at e
    cases e
    refine core (fun _ => none) (fun _ => .inl rfl) (.inr ⟨_, vs.toArray, _, hk, rfl, rfl, rfl, by rw [List.size_toArray, lenV]; exact hl, by simpa using rv⟩) (fun b u z => by have z' : (none : Option HO) = some u := z; cases z') (fun b z => absurd rfl z) fun z => absurd rfl z
  | none =>
    refine core (fun b => if b = a then some (.frz { cls := .type "list", data := .seq vs.toArray } (.lst (ns.map V.int))) else none) (fun b => ?_) (.inl (.inr ⟨{ cls := .type "list", data := .seq vs.toArray }, if_pos rfl⟩)) (fun b u z => ?_) (fun b z => ?_) fun _ => hk
    · by_cases hb : b = a
      · exact .inr ⟨_, _, if_pos hb⟩
      · exact .inl (if_neg hb)
    · by_cases hb : b = a
      · have z' := (if_pos hb).symm.trans z
        cases z'
        subst hb
        exact ⟨ha, by rw [List.length_map]; exact hl, vs, _, rv, ha⟩
      · have z' := (if_neg hb).symm.trans z
        cases z'
    · by_cases hb : b = a
      · exact hb
      · exact absurd (if_neg hb) z
end L2
namespace L2
open PySem PySem.Spec PyProof.Rows
theorem walk_of {l : PySem.W.OpenLaw} {n k : Nat} {q : Program} {loose : List Str} {XP : (Str → Option Value) → Heap → Prop} {YP : World → Heap → Prop} {d : DefRec} {K : Params → PySem.W.Frag} {CX : World → CXT} {sp : World → Sp} {x : Str}
    (hn : l.most = some n) (hn2 : n ≤ sizeLine) (hdf : d.params.defaults = []) (hr : Room k callerA)
    (hY : ∀ (w : World) (h : Heap), YP w h → (K w.params).In h)
    (F : ∀ (w : World) (mg : Str → Option Value) (fa : Addr) (h : Heap), (K w.params).In h → h.Ns mainGlobals mg → mg d.name = some (.ref fa) →
      ∃ fd : FuncData, (∀ (s : Shared) (u : Value), BindsTo s fd ⟨[u], []⟩ [(x, u)]) ∧
        ∀ base : Heap, (K w.params).In base → base.Ns mainGlobals mg → FnOk l.prog w (K w.params) mg base (CX w) k fa fd [x] (sp w))
    (hsp : ∀ (w : World) (H : Hp) (a : Addr) (ns : List Int), ns.length ≤ n → Only H → SqL (K w.params) H a (ns.map V.int) → sp w [.ref a] H (fun v _ => v = .bl true) fun _ _ _ => False)
    (hCX : ∀ (w : World) (H : Hp) (s : Shared) (e : Value) (s' : Shared), CX w [] H s (fun _ _ _ => False) e s' → False) :
    PySem.W.WalkO q loose XP YP l.row.toRowW d [] (fun f vs => PySem.call f vs) := by
  refine Att.attach_call hn hdf fun w s₀ s₁ mg mb fa o pm cd doc a vs ns G Y ho hd hcd hmg hobj hints hlen hg => ?_
  have KX := hY w _ Y
  obtain ⟨fd, hb, hF⟩ := F w mg fa _ KX G.T.g hmg
  exact law_call KX G.T.g G.T.b G.T.builtins G.T.nolimit hg hobj hints (Nat.le_trans hlen hn2) hr hF hb (fun H hO hS => hsp w H a ns hlen hO hS) fun H e s' => hCX w H s₁ e s'
end L2
/- THE LAST THEOREM (shape; LID, My.* are yours):
   My.Adr: a structure of the addresses that your layer names (classes, functions); My.Txt K t: a structure (Prop) of the equations over K;
   My.txt_mk : {K} {implicit addresses ..} (e1 : nsIn K mainGlobals "law" = some (some (.ref f))) (e2 : K.lookup f = some ⟨oc, od, .func (fnOf "law" "law" params body scope dV kV doc pm an cdv ct), sl⟩) (e3 : codeIn K cdv "law" = true) .. : ∃ t, My.Txt K t
set_option maxRecDepth 100000 in
set_option maxHeartbeats 0 in
theorem PySem.Challenge.cw_LID_holds : PySem.Challenge.rw_LID.Holds := by
  w_on; o_law; k_head; (case hw => w_witness2)
  k_fill
  refine L2.walk_of (l := PySem.Challenge.rw_LID) (n := 63) (k := 40) (x := "script") (CX := fun w => ..) (sp := fun _ => My.sp_law) rfl (by decide) rfl ⟨rfl, by decide, by decide⟩ (fun w h Y => PySem.W.kIn_of Y) ?F ?S ?C
  case F =>
    intro w mg fa h KX G hmg
    have T : ∃ t, My.Txt (L2.KOf KX) t := by
      dsimp only [L2.KOf]                          -- K must stand as «<heap const> w.params» for k_is
      refine' My.txt_mk ?e1 ?e2 ?e3 ..
      (case e1 => PySem.W.k_is)                    -- in the order: a name -> its address -> its object -> its parts
      (case e2 => PySem.W.k_is)
      ..
    obtain ⟨t, T⟩ := T
    have e0 := hmg.symm.trans (PySem.W.mg_of KX G T.law)
    cases e0                                       -- fa is the law's own address
    exact ⟨_, fun s u => .of_eq rfl, fun base kb nb => My.law_fn T kb nb⟩     -- if «.of_eq rfl» comes too early: refine' ⟨_, ?b, fun base kb nb => My.law_fn T kb nb⟩; exact fun s u => .of_eq rfl
  case S => exact fun w H a ns hl hO hS => ..
  case C => exact ..
(the tactic k_is has no namespace: write k_is) -/
namespace L2
open PySem PySem.Spec PyProof.Rows
def defArgs (s : Stmt) : Arguments := match s with
  | .FunctionDef _ a _ _ _ _ _ _ _ _ => a
  | _ => { posonlyargs := [], args := [], vararg := none, kwonlyargs := [], kw_defaults := [], kwarg := none, defaults := [] }
def defBody (s : Stmt) : List Stmt := match s with
  | .FunctionDef _ _ b _ _ _ _ _ _ _ => b
  | _ => []
def defScope (s : Stmt) : Scope := match s with
  | .FunctionDef _ _ _ _ _ _ sc _ _ _ => sc
  | _ => { kind := .function, names := [], isGenerator := false, isCoroutine := false }
abbrev CX0 : CXT := fun _ _ _ _ _ _ => False
abbrev E0 : XK := fun _ _ _ => False
structure Fun (K : PySem.W.Frag) (x qual : Str) (st : Stmt) (f : Addr) (fd : FuncData) : Prop where
  ex : ∃ (oc : Value) (od : Option Addr) (kV doc pm : Value) (an : Option Addr) (cdv ct : Value) (osl : Array (Option Value)),
    fd = PySem.W.fnOf x qual (defArgs st) (defBody st) (defScope st) .none kV doc pm an cdv ct ∧ K.lookup f = some ⟨oc, od, .func fd, osl⟩ ∧ PySem.W.codeIn K cdv qual = true
  kp : PySem.W.keepIn K (.ref f) = true
section
variable {P : Program} {w : World} {K : PySem.W.Frag} {mg : Str → Option Value} {base : Heap}
theorem Fun.ok {x qual : Str} {st : Stmt} {f : Addr} {fd : FuncData} {N ps : List Str} {k : Nat} {sp : Sp} (F : Fun K x qual st f fd) (S : FnScope N ps (defScope st)) (len : ∀ vs H Q E, sp vs H Q E → vs.length = ps.length)
    (hbody : ∀ (cdv : Value) (A : Around) (outer : List Env) (s : Shared) (H : Hp) (vs : List V) (Q : VK) (E : XK), Room k (A.deeper (envOfC qual (defScope st) s.heap.objs.size f cdv)) → sp vs H Q E →
      ∃ t, PSs (cxOf CX0 P w K mg base N qual (defScope st) f cdv A outer s H E).nox (defBody st) t ∧ t { nx := fun _ H' => Q .non H', rt := Q } (start N vs) H) : FnOk P w K mg base CX0 (k + 1) f fd ps sp := by
  obtain ⟨oc, od, kV, doc, pm, an, cdv, ct, osl, rfl, lk, hcd⟩ := F.ex
  refine fn_of lk hcd S len fun A outer s H vs Q E hr hsp => ?_
  obtain ⟨t, h, q⟩ := hbody cdv A outer s H vs Q E hr hsp
  exact ⟨t, h.nox, q⟩
theorem Fun.binds {x qual : Str} {st : Stmt} {f : Addr} {fd : FuncData} {ps : List Str} (F : Fun K x qual st f fd)
    (h : ∀ (kV doc pm : Value) (an : Option Addr) (cdv ct : Value) (us : List Value), us.length = ps.length → bindArgs (PySem.W.fnOf x qual (defArgs st) (defBody st) (defScope st) .none kV doc pm an cdv ct) ⟨us, []⟩ = pure (ps.zip us)) : Binds K fd ps [] := by
  obtain ⟨oc, od, kV, doc, pm, an, cdv, ct, osl, rfl, lk, hcd⟩ := F.ex
  exact .all (h kV doc pm an cdv ct)
theorem fun_mk {x qual : Str} {st : Stmt} {f : Addr} {oc : Value} {od an : Option Addr} {osl : Array (Option Value)} {kV doc pm cdv ct : Value} (l : K.lookup f = some ⟨oc, od, .func (PySem.W.fnOf x qual (defArgs st) (defBody st) (defScope st) .none kV doc pm an cdv ct), osl⟩)
    (c : PySem.W.codeIn K cdv qual = true) (k : PySem.W.keepIn K (.ref f) = true) : Fun K x qual st f (PySem.W.fnOf x qual (defArgs st) (defBody st) (defScope st) .none kV doc pm an cdv ct) := ⟨⟨oc, od, kV, doc, pm, an, cdv, ct, osl, rfl, l, c⟩, k⟩
end
theorem small1000 {n : Nat} (h : n ≤ 1000) : n < sizeLine := Nat.lt_of_le_of_lt h (by decide)
section
variable {X : Cx}
end
def Same (H H' : Hp) : Prop := ∀ b o, H b = some o → H' b = some o
theorem Same.refl (H : Hp) : Same H H := fun _ _ h => h
theorem Same.trans {H H1 H2 : Hp} (a : Same H H1) (b : Same H1 H2) : Same H H2 := fun c o h => b c o (a c o h)
theorem Same.free {H H' : Hp} (e : Same H H') {l : Addr} (h : H' l = Option.none) : H l = Option.none := by
  cases q : H l with
  | none => rfl
  | some o =>
    rw [e l o q] at h
    cases h
theorem Same.seq {K : PySem.W.Frag} {H H' : Hp} {a : Addr} {xs : List V} (e : Same H H') (h : SqL K H a xs) : SqL K H' a xs := by
  rcases h with (h | ⟨o, h⟩) | h
  · exact .inl (.inl (e _ _ h))
  · exact .inl (.inr ⟨o, e _ _ h⟩)
  · exact .inr h
end L2
namespace Wv
open PySem L2
theorem bt_int : bootBuiltins "int" = some (.type "int") := by decide +kernel
theorem bt_bool : bootBuiltins "bool" = some (.type "bool") := by decide +kernel
theorem bt_tuple : bootBuiltins "tuple" = some (.type "tuple") := by decide +kernel
theorem bt_list : bootBuiltins "list" = some (.type "list") := by decide +kernel
theorem bt_isinstance : bootBuiltins "isinstance" = some (.builtin "isinstance") := by decide +kernel
theorem bt_len : bootBuiltins "len" = some (.builtin "len") := by decide +kernel
def cellM (ns : List Int) (k : Int) : Int := ns.getD k.toNat 0
def mixM (c p m : Int) : Int := c * 48271 % p % m
def sizeM (c : Int) : Int := if mixM c 9901 8 = 3 then 1 + mixM c 9973 16 else 1 + mixM c 9973 6
theorem mixM_lo {c p m : Int} (h : 0 < m) : 0 ≤ mixM c p m := Int.emod_nonneg _ (by omega)
theorem mixM_hi {c p m : Int} (h : 0 < m) : mixM c p m < m := Int.emod_lt_of_pos _ h
theorem sizeM_lo (c : Int) : 1 ≤ sizeM c := by
  unfold sizeM
  have h1 := mixM_lo (c := c) (p := 9973) (m := 16) (by decide)
  have h2 := mixM_lo (c := c) (p := 9973) (m := 6) (by decide)
  split <;> omega
theorem sizeM_hi (c : Int) : sizeM c ≤ 16 := by
  unfold sizeM
  have h1 := mixM_hi (c := c) (p := 9973) (m := 16) (by decide)
  have h2 := mixM_hi (c := c) (p := 9973) (m := 6) (by decide)
  split <;> omega
def seedM (ns : List Int) (at_ r c : Int) : Int := cellM ns (at_ + 2 + (3 * r + c) % 12) + 31 * r * r + 57 * c * c
def bitM (ns : List Int) (at_ way r c : Int) : Int :=
  if way = 2 then (if mixM (seedM ns at_ r c) 9931 6 = 0 then 1 else 0)
  else if way = 1 then (if 0 < (r + c + mixM (seedM ns at_ r c) 9941 12 / 11) % 3 then 1 else 0)
  else mixM (seedM ns at_ r c) 9949 2
theorem bitM_bit (ns : List Int) (at_ way r c : Int) : bitM ns at_ way r c = 0 ∨ bitM ns at_ way r c = 1 := by
  unfold bitM
  have h1 := mixM_lo (c := seedM ns at_ r c) (p := 9949) (m := 2) (by decide)
  have h2 := mixM_hi (c := seedM ns at_ r c) (p := 9949) (m := 2) (by decide)
  split
  · split <;> simp
  · split
    · split <;> simp
    · omega
def wayM (ns : List Int) (at_ : Int) : Int := mixM (cellM ns at_ + 3 * cellM ns (at_ + 1)) 9871 3
def rowM (ns : List Int) (at_ r : Int) : List Int := (List.range (sizeM (cellM ns (at_ + 1))).toNat).map fun c => bitM ns at_ (wayM ns at_) r (c : Nat)
def clothM (ns : List Int) (at_ : Int) : List (List Int) := (List.range (sizeM (cellM ns at_)).toNat).map fun r => rowM ns at_ (r : Nat)
def Rows (H : Hp) (as : List Addr) (rows : List (List Int)) : Prop := Paired (fun a (r : List Int) => H a = some (.tup (r.map V.int))) as rows
def Cl (H : Hp) (p : Addr) (rows : List (List Int)) : Prop := ∃ as : List Addr, H p = some (.tup (as.map V.ref)) ∧ Rows H as rows
theorem Rows.same {H H' : Hp} {as : List Addr} {rows : List (List Int)} (h : Rows H as rows) (s : Same H H') : Rows H' as rows := Paired.mapP h fun _ _ e => s _ _ e
theorem Cl.same {H H' : Hp} {p : Addr} {rows : List (List Int)} (h : Cl H p rows) (s : Same H H') : Cl H' p rows := by
  obtain ⟨as, e, r⟩ := h
  exact ⟨as, s _ _ e, Rows.same r s⟩
theorem Paired.at {α β : Type} {F : α → β → Prop} : ∀ {l : List α} {l' : List β} {i : Nat} {b : β}, Paired F l l' → l'[i]? = some b → ∃ a, l[i]? = some a ∧ F a b
  | _, _, _, _, .nil, e => by simp at e
  | _, _, 0, _, .cons r _, e => by simp at e; subst e; exact ⟨_, rfl, r⟩
  | _, _, i + 1, b, .cons _ t, e => by
    obtain ⟨u, h1, h2⟩ := Paired.at (i := i) (b := b) t (by simpa using e)
    exact ⟨u, by simpa using h1, h2⟩
theorem Cl.row {H : Hp} {p : Addr} {rows : List (List Int)} {j : Nat} {row : List Int} (h : Cl H p rows) (e : rows[j]? = some row) : ∃ (as : List Addr) (q : Addr), H p = some (.tup (as.map V.ref)) ∧ as.length = rows.length ∧ (as.map V.ref)[j]? = some (.ref q) ∧ H q = some (.tup (row.map V.int)) := by
  obtain ⟨as, h1, h2⟩ := h
  obtain ⟨q, h3, h4⟩ := Paired.at h2 e
  exact ⟨as, q, h1, PySem.Paired.length h2, by rw [List.getElem?_map, h3]; rfl, h4⟩
theorem Cl.len {H : Hp} {p : Addr} {rows : List (List Int)} (h : Cl H p rows) : ∃ (as : List Addr), H p = some (.tup (as.map V.ref)) ∧ (as.map V.ref).length = rows.length := by
  obtain ⟨as, h1, h2⟩ := h
  exact ⟨as, h1, by rw [List.length_map]; exact PySem.Paired.length h2⟩
theorem same_new {H : Hp} {p : Addr} {o : HO} (h : H p = none) : Same H (upd H p o) := fun b u e => by
  rw [upd_ne (ne_of_none e h)]
  exact e
theorem atI_at {α : Type} {xs : List α} {i : Int} {v : α} (h0 : 0 ≤ i) (h : xs[i.toNat]? = some v) : atI xs i = some v := by
  have e := atI_nat h
  rw [Int.toNat_of_nonneg h0] at e
  exact e
theorem bit0 {ns : List Int} {k way r c : Int} (h1 : ¬ way = 1) (h2 : ¬ way = 2) :
    mixM (cellM ns (k + 2 + (3 * (0 + r) + (0 + c)) % 12) + 31 * (0 + r) * (0 + r) + 57 * (0 + c) * (0 + c)) 9949 2 = bitM ns k way r c := by
  unfold bitM seedM
  rw [if_neg h2, if_neg h1]
  simp only [Int.zero_add]
theorem bit1 {ns : List Int} {k way r c : Int} (h1 : way = 1) :
    (if decide (0 < ((0 + r) + (0 + c) + mixM (cellM ns (k + 2 + (3 * (0 + r) + (0 + c)) % 12) + 31 * (0 + r) * (0 + r) + 57 * (0 + c) * (0 + c)) 9941 12 / 11) % 3) = true then (1 : Int) else 0) = bitM ns k way r c := by
  subst h1
  unfold bitM seedM
  rw [if_neg (show ¬ (1 : Int) = 2 by decide), if_pos (show (1 : Int) = 1 from rfl)]
  simp only [Int.zero_add, decide_eq_true_eq]
theorem bit2 {ns : List Int} {k way r c : Int} (h2 : way = 2) :
    (if decide (V.int (mixM (cellM ns (k + 2 + (3 * (0 + r) + (0 + c)) % 12) + 31 * (0 + r) * (0 + r) + 57 * (0 + c) * (0 + c)) 9931 6) = V.int 0) = true then (1 : Int) else 0) = bitM ns k way r c := by
  subst h2
  unfold bitM seedM
  rw [if_pos (show (2 : Int) = 2 from rfl)]
  simp only [Int.zero_add, decide_eq_true_eq, V.int.injEq]
theorem bt_str : bootBuiltins "str" = some (.type "str") := by decide +kernel
structure DefOk (K : PySem.W.Frag) (mg : Str → Option Value) (x : Str) (st : Stmt) (ps : List Str) (f : Addr) (fd : FuncData) : Prop where
  F : Fun K x x st f fd
  b : Binds K fd ps []
  m : mg x = some (.ref f)
end Wv
namespace L2
open PySem PySem.Spec PyProof.Rows
def closL (env : Env) : List (Str × NameKind) → List (Str × Addr) → List (Str × Addr)
  | [], acc => acc
  | (n, k) :: r, acc => if k == .free then closL env r ((n, (env.cells.lookup n).getD 0) :: acc) else closL env r acc
theorem forIn_closL {env : Env} (f : Str × NameKind → List (Str × Addr) → Sem (ForInStep (List (Str × Addr))))
    (hf : ∀ name kind cs, f (name, kind) cs = if kind == .free then (do let a ← cellOf env name; pure (.yield ((name, a) :: cs))) else pure (.yield cs)) :
    ∀ (names : List (Str × NameKind)) (acc : List (Str × Addr)), (∀ y ∈ names, y.2 = .free → ∃ c, env.cells.lookup y.1 = some c) → forIn names acc f = pure (closL env names acc)
  | [], acc, _ => by
    rw [List.forIn_nil]
    rfl
  | (name, kind) :: r, acc, h => by
    rw [List.forIn_cons, hf]
    unfold closL
    by_cases hk : kind = .free
    · obtain ⟨c, hc⟩ := h (name, kind) List.mem_cons_self hk
      have hb : (kind == NameKind.free) = true := by rw [hk]; rfl
      rw [if_pos hb, if_pos hb]
      have hc' : env.cells.lookup name = some c := hc
      have e : cellOf env name = pure c := by unfold cellOf; rw [hc']
      rw [e, hc', pure_bind, pure_bind]
      exact forIn_closL f hf r _ fun y hy => h y (List.mem_cons_of_mem _ hy)
    · have hb : ¬ (kind == NameKind.free) = true := by simpa using hk
      rw [if_neg hb, if_neg hb, pure_bind]
      exact forIn_closL f hf r _ fun y hy => h y (List.mem_cons_of_mem _ hy)
theorem closureFor_eq {scope : Scope} {env : Env} (h : ∀ y ∈ scope.names, y.2 = .free → ∃ c, env.cells.lookup y.1 = some c) : closureFor scope env = pure (closL env scope.names []) := by
  show (do let s ← forIn scope.names ([] : List (Str × Addr)) _; pure s) = _
  rw [forIn_closL (env := env) _ (fun name kind cs => by cases hk : kind == NameKind.free <;> simp [hk]) _ _ h]
  exact pure_bind _ _
theorem lk_cons {α : Type} {n x : Str} {v c : α} {l : List (Str × α)} (h : ((n, v) :: l).lookup x = some c) : (x = n ∧ v = c) ∨ l.lookup x = some c := by
  rw [List.lookup_cons] at h
  cases hb : x == n with
  | true =>
    rw [hb] at h
    exact .inl ⟨beq_iff_eq.mp hb, Option.some.inj h⟩
  | false =>
    rw [hb] at h
    exact .inr h
theorem lk_some {α : Type} {n x : Str} {v : α} {l : List (Str × α)} (h : x = n ∨ (l.lookup x).isSome = true) : (((n, v) :: l).lookup x).isSome = true := by
  rw [List.lookup_cons]
  cases hb : x == n with
  | true => rfl
  | false =>
    rcases h with h | h
    · rw [h, beq_self_eq_true] at hb
      cases hb
    · exact h
theorem lk_app {α : Type} {x : Str} {c : α} : ∀ {l l' : List (Str × α)}, (l ++ l').lookup x = some c → l.lookup x = some c ∨ l'.lookup x = some c
  | [], l', h => .inr h
  | (n, v) :: r, l', h => by
    rw [List.cons_append, List.lookup_cons] at h
    rw [List.lookup_cons]
    cases hb : x == n with
    | true =>
      rw [hb] at h
      exact .inl h
    | false =>
      rw [hb] at h
      exact lk_app h
theorem closL_of (env : Env) : ∀ (names : List (Str × NameKind)) (acc : List (Str × Addr)) (x : Str) (c : Addr), (closL env names acc).lookup x = some c →
    acc.lookup x = some c ∨ ((x, NameKind.free) ∈ names ∧ (env.cells.lookup x).getD 0 = c)
  | [], acc, x, c, h => .inl h
  | (n, k) :: r, acc, x, c, h => by
    unfold closL at h
    by_cases hk : (k == NameKind.free) = true
    · rw [if_pos hk] at h
      have ek : k = .free := by simpa using hk
      rcases closL_of env r _ x c h with h | ⟨h1, h2⟩
      · rcases lk_cons h with ⟨rfl, h⟩ | h
        · exact .inr ⟨by rw [ek]; exact List.mem_cons_self, h⟩
        · exact .inl h
      · exact .inr ⟨List.mem_cons_of_mem _ h1, h2⟩
    · rw [if_neg hk] at h
      rcases closL_of env r _ x c h with h | ⟨h1, h2⟩
      · exact .inl h
      · exact .inr ⟨List.mem_cons_of_mem _ h1, h2⟩
theorem closL_has (env : Env) : ∀ (names : List (Str × NameKind)) (acc : List (Str × Addr)) (x : Str), ((x, NameKind.free) ∈ names ∨ (acc.lookup x).isSome = true) → ((closL env names acc).lookup x).isSome = true
  | [], acc, x, h => by
    rcases h with h | h
    · cases h
    · exact h
  | (n, k) :: r, acc, x, h => by
    unfold closL
    by_cases hk : (k == NameKind.free) = true
    · rw [if_pos hk]
      refine closL_has env r _ x ?_
      rcases h with h | h
      · rcases List.mem_cons.mp h with h | h
        · exact .inr (lk_some (.inl (congrArg Prod.fst h)))
        · exact .inl h
      · exact .inr (lk_some (.inr h))
    · rw [if_neg hk]
      refine closL_has env r _ x ?_
      rcases h with h | h
      · rcases List.mem_cons.mp h with h | h
        · cases h
          exact absurd rfl hk
        · exact .inl h
      · exact .inr h
theorem cellsFrom_app : ∀ (names : List (Str × NameKind)) (n : Nat) (acc : List (Str × Addr)), cellsFrom n names acc = cellsFrom n names [] ++ acc
  | [], n, acc => rfl
  | (x, k) :: r, n, acc => by
    unfold cellsFrom
    split
    · rw [cellsFrom_app r (n + 1) ((x, n) :: acc), cellsFrom_app r (n + 1) [(x, n)], List.append_assoc]
      rfl
    · exact cellsFrom_app r n acc
theorem cellsFrom_has : ∀ (names : List (Str × NameKind)) (n : Nat) (acc : List (Str × Addr)) (x : Str), ((x, NameKind.cell) ∈ names ∨ (acc.lookup x).isSome = true) → ((cellsFrom n names acc).lookup x).isSome = true
  | [], n, acc, x, h => by
    rcases h with h | h
    · cases h
    · exact h
  | (y, k) :: r, n, acc, x, h => by
    unfold cellsFrom
    by_cases hk : (k == NameKind.cell) = true
    · rw [if_pos hk]
      refine cellsFrom_has r _ _ x ?_
      rcases h with h | h
      · rcases List.mem_cons.mp h with h | h
        · exact .inr (lk_some (.inl (congrArg Prod.fst h)))
        · exact .inl h
      · exact .inr (lk_some (.inr h))
    · rw [if_neg hk]
      refine cellsFrom_has r _ _ x ?_
      rcases h with h | h
      · rcases List.mem_cons.mp h with h | h
        · cases h
          exact absurd rfl hk
        · exact .inl h
      · exact .inr h
theorem cellsFrom_key : ∀ (names : List (Str × NameKind)) (n : Nat) (acc : List (Str × Addr)) (x : Str) (c : Addr), (cellsFrom n names acc).lookup x = some c → acc.lookup x = some c ∨ (x, NameKind.cell) ∈ names
  | [], n, acc, x, c, h => .inl h
  | (y, k) :: r, n, acc, x, c, h => by
    unfold cellsFrom at h
    by_cases hk : (k == NameKind.cell) = true
    · rw [if_pos hk] at h
      have ek : k = .cell := by simpa using hk
      rcases cellsFrom_key r _ _ x c h with h | h
      · rcases lk_cons h with ⟨rfl, h⟩ | h
        · exact .inr (by rw [ek]; exact List.mem_cons_self)
        · exact .inl h
      · exact .inr (List.mem_cons_of_mem _ h)
    · rw [if_neg hk] at h
      rcases cellsFrom_key r _ _ x c h with h | h
      · exact .inl h
      · exact .inr (List.mem_cons_of_mem _ h)
theorem relabel_of {env : Env} {x : Str} {k : NameKind} : ∀ {names : List (Str × NameKind)},
    (names.map fun (n, k) => if (k == NameKind.free && env.scope.kind == .function && env.kindOf n == some .cell) then (n, NameKind.cell) else (n, k)).lookup x = some k →
    ∃ k0, (x, k0) ∈ names ∧ (k = k0 ∨ (k0 = .free ∧ k = .cell))
  | [], h => by simp at h
  | (n, k1) :: r, h => by
    rw [List.map_cons] at h
    by_cases hc : (k1 == NameKind.free && env.scope.kind == .function && env.kindOf n == some .cell) = true
    · dsimp only at h
      rw [if_pos hc] at h
      have hf : k1 = .free := by
        rw [Bool.and_eq_true, Bool.and_eq_true] at hc
        simpa using hc.1.1
      rcases lk_cons h with ⟨rfl, hk⟩ | h
      · exact ⟨k1, List.mem_cons_self, .inr ⟨hf, hk.symm⟩⟩
      · obtain ⟨k0, h1, h2⟩ := relabel_of h
        exact ⟨k0, List.mem_cons_of_mem _ h1, h2⟩
    · dsimp only at h
      rw [if_neg hc] at h
      rcases lk_cons h with ⟨rfl, hk⟩ | h
      · exact ⟨k1, List.mem_cons_self, .inl hk.symm⟩
      · obtain ⟨k0, h1, h2⟩ := relabel_of h
        exact ⟨k0, List.mem_cons_of_mem _ h1, h2⟩
def compCx (X : Cx) (scope : Scope) (C : Addr) (N' : List Str) (s2 : Shared) (H1 : Hp) (fp : List Addr) : Cx :=
  { X with
    N := N'
    s₀ := s2
    H₀ := H1
    env := compEnvC scope (cellsFrom (C + 1) scope.names (closL X.env scope.names [])) C X.env
    outer := X.stack
    stack := X.stack
    ex := fp
    fn := fun x => scope.names.all fun y => !(y.1 == x && y.2 == .free)
    pn := []
    xe := fun _ _ => False }
def pick (σ : St) : Option Nat → Option V
  | none => none
  | some j => (σ[j]?).getD none
structure LcOk (X : Cx) (scope : Scope) (N' : List Str) (src : List (Option Nat)) : Prop where
  kind : scope.kind = .function
  one : ∀ y ∈ scope.names, scope.names.lookup y.1 = some y.2
  cap : ∀ y ∈ scope.names, y.2 = .free → X.env.scope.names.lookup y.1 = some .cell
  len : N'.length = src.length
  src : ∀ (i j : Nat) (x : Str), N'[i]? = some x → src[i]? = some (some j) → X.N[j]? = some x ∧ (x, NameKind.free) ∈ scope.names
def lcCheck (N0 : List Str) (sc0 scope : Scope) (N' : List Str) (src : List (Option Nat)) : Bool :=
  (scope.kind == .function) && (scope.names.all fun y => scope.names.lookup y.1 == some y.2) && (scope.names.all fun y => y.2 != .free || sc0.names.lookup y.1 == some .cell) && (N'.length == src.length) &&
  ((N'.zip src).all fun p => match p.2 with
    | none => true
    | some j => N0[j]? == some p.1 && scope.names.any fun y => y.1 == p.1 && y.2 == .free)
theorem LcOk.of {X : Cx} {scope : Scope} {N' : List Str} {src : List (Option Nat)} (N0 : List Str) (sc0 : Scope) (hN : X.N = N0) (hS : X.env.scope = sc0) (h : lcCheck N0 sc0 scope N' src = true) : LcOk X scope N' src := by
  unfold lcCheck at h
  simp only [Bool.and_eq_true] at h
  obtain ⟨⟨⟨⟨h1, h2⟩, h3⟩, h4⟩, h5⟩ := h
  refine ⟨by simpa using h1, fun y hy => ?_, fun y hy hf => ?_, by simpa using h4, fun i j x e1 e2 => ?_⟩
  · have := List.all_eq_true.mp h2 y hy
    simpa using this
  · have := List.all_eq_true.mp h3 y hy
    rw [hS]
    rw [hf] at this
    simpa using this
  · have hz : (N'.zip src)[i]? = some (x, some j) := by
      rw [List.getElem?_zip_eq_some]
      exact ⟨e1, e2⟩
    have := List.all_eq_true.mp h5 _ (List.mem_of_getElem? hz)
    dsimp only at this
    rw [Bool.and_eq_true] at this
    obtain ⟨a, b⟩ := this
    rw [hN]
    refine ⟨by simpa using a, ?_⟩
    obtain ⟨y, hy, hb⟩ := List.any_eq_true.mp b
    rw [Bool.and_eq_true] at hb
    obtain ⟨p, q⟩ := hb
    have e1 : y.1 = x := by simpa using p
    have e2 : y.2 = .free := by simpa using q
    rw [← e1, ← e2]
    exact hy
section
variable {X : Cx} {scope : Scope} {N' : List Str} {src : List (Option Nat)} {pins : List (Addr × Obj)} {σ : St} {H1 : Hp} {s2 : Shared} {fp : List Addr}
theorem LcOk.capc (L : LcOk X scope N' src) (I : Inv X pins σ H1 s2) {x : Str} (h : (x, NameKind.free) ∈ scope.names) : ∃ c, X.env.cells.lookup x = some c :=
  I.ok.has x (.inl (L.cap _ h rfl))
theorem comp_cell (L : LcOk X scope N' src) (I : Inv X pins σ H1 s2) {C : Nat} {x : Str} {c : Addr} (h : (cellsFrom (C + 1) scope.names (closL X.env scope.names [])).lookup x = some c) :
    (cellsFrom (C + 1) scope.names []).lookup x = some c ∨ ((x, NameKind.free) ∈ scope.names ∧ X.env.cells.lookup x = some c) := by
  rw [cellsFrom_app] at h
  rcases lk_app h with h | h
  · exact .inl h
  · rcases closL_of _ _ _ _ _ h with h | ⟨h1, h2⟩
    · cases h
    · obtain ⟨c', e⟩ := L.capc I h1
      rw [e] at h2
      cases h2
      exact .inr ⟨h1, e⟩
theorem comp_old (I : Inv X pins σ H1 s2) {x : Str} {c : Addr} (h : X.env.cells.lookup x = some c) : @LT.lt Nat _ c s2.heap.objs.size := by
  obtain ⟨v, z⟩ := I.cell x c h
  exact z.lt
theorem comp_own {h0 : Heap} {x : Str} {c : Addr} (h : (cellsFrom h0.objs.size scope.names []).lookup x = some c) : (pushCells h0 scope.names).IsCell c none ∧ h0.objs.size ≤ c :=
  (cellsFrom_ok scope.names h0 h0.objs.size [] ⟨fun _ _ hm => (nomatch hm), List.Pairwise.nil⟩ (Nat.le_refl _)).empty x c (mem_of_lookup h)
theorem comp_apart (h0 : Heap) : (cellsFrom h0.objs.size scope.names []).Pairwise fun x y => x.2 ≠ y.2 :=
  (cellsFrom_ok scope.names h0 h0.objs.size [] ⟨fun _ _ hm => (nomatch hm), List.Pairwise.nil⟩ (Nat.le_refl _)).apart
def lcHeap (h : Heap) : Heap := (h.push { cls := .type "list", data := .seq ([] : List Value).toArray }).push { cls := .type "dict", data := .dict #[] }
theorem lcHeap_size (h : Heap) : (lcHeap h).objs.size = h.objs.size + 1 + 1 := by
  unfold lcHeap
  rw [Heap.size_push, Heap.size_push]
theorem lcHeap_keeps {h : Heap} {b : Addr} {o : Obj} (e : h.get? b = some o) : (lcHeap h).get? b = some o := Heap.get?_push_of_some _ (Heap.get?_push_of_some _ e)
theorem comp_ok (L : LcOk X scope N' src) (I : Inv X pins σ H1 s2) (f2 : ∀ b ∈ fp, FpOk X pins H1 b) (fo : ∀ b ∈ fp, b < s2.heap.objs.size) : (compCx X scope (s2.heap.objs.size + 1) N' s2 H1 fp).Ok := by
  have own : ∀ {x : Str} {c : Addr}, (cellsFrom (s2.heap.objs.size + 1 + 1) scope.names []).lookup x = some c → s2.heap.objs.size + 1 + 1 ≤ c := fun {x c} h => by
    have := comp_own (h0 := lcHeap s2.heap) (scope := scope) (x := x) (c := c) (by rw [lcHeap_size]; exact h)
    rw [lcHeap_size] at this
    exact this.2
  refine ⟨I.ok.mod, ?_, I.ok.glob, I.ok.blt, Nat.le_succ _, ?_, ?_, ?_, I.ok.hd, I.ok.frames, .inl rfl, ?_, I.bs, Nat.le_trans I.ok.bsz I.sz, ?_, ?_, I.stack, I.stkFree⟩
  · exact L.kind
  · intro x y c hx hy
    rcases comp_cell L I hx with hx | ⟨_, hx⟩ <;> rcases comp_cell L I hy with hy | ⟨_, hy⟩
    · have ap := comp_apart (scope := scope) (lcHeap s2.heap)
      rw [lcHeap_size] at ap
      exact name_of_addr ap (mem_of_lookup hx) (mem_of_lookup hy)
    · have := own hx
      have := comp_old I hy
      omega
    · have := own hy
      have := comp_old I hx
      omega
    · exact I.ok.inj x y c hx hy
  · intro x hx
    have : ∃ k0, (x, k0) ∈ scope.names ∧ (k0 = .cell ∨ k0 = .free) := by
      rcases hx with hx | hx
      · obtain ⟨k0, h1, h2⟩ := relabel_of hx
        rcases h2 with h2 | ⟨h2, _⟩
        · exact ⟨k0, h1, .inl h2.symm⟩
        · exact ⟨k0, h1, .inr h2⟩
      · obtain ⟨k0, h1, h2⟩ := relabel_of hx
        rcases h2 with h2 | ⟨_, h2⟩
        · exact ⟨k0, h1, .inr h2.symm⟩
        · cases h2
    obtain ⟨k0, h1, h2⟩ := this
    have z : ((cellsFrom (s2.heap.objs.size + 1 + 1) scope.names (closL X.env scope.names [])).lookup x).isSome = true := by
      rcases h2 with rfl | rfl
      · exact cellsFrom_has _ _ _ _ (.inl h1)
      · exact cellsFrom_has _ _ _ _ (.inr (closL_has _ _ _ _ (.inl h1)))
    exact Option.isSome_iff_exists.mp z
  · intro x c hf hx
    show s2.heap.objs.size ≤ c
    rcases comp_cell L I hx with hx | ⟨hm, hx⟩
    · have := own hx
      omega
    · have := List.all_eq_true.mp hf _ hm
      simp at this
  · intro b hb
    have hlt : @LT.lt Nat _ b s2.heap.objs.size := fo b hb
    refine ⟨fun z => ?_, fun x c hx z => ?_⟩
    · have z' : @Eq Nat b (s2.heap.objs.size + 1) := z
      omega
    · rcases comp_cell L I hx with hx | ⟨_, hx⟩
      · have := own hx
        have z' : @Eq Nat c b := z
        omega
      · exact (f2 b hb).2.2.2.2.1 x c hx z
  · intro b o e hb
    obtain ⟨_, _, _, h4, _⟩ := f2 b hb
    rcases h4 with h4 | h4
    · exact I.ok.noex b o e h4
    · have h5 : @LT.lt Nat _ b X.base.objs.size := Heap.lt_size e
      have h6 := I.ok.bsz
      have h7 : @LE.le Nat _ X.s₀.heap.objs.size b := h4
      omega
  · intro b hb hf
    rcases List.mem_cons.mp (I.stkSub b hf) with h | h
    · exact (f2 b hb).2.1 h
    · exact (f2 b hb).2.2.1 h
theorem comp_inv (L : LcOk X scope N' src) (I : Inv X pins σ H1 s2) (f2 : ∀ b ∈ fp, FpOk X pins H1 b) (fo : ∀ b ∈ fp, b < s2.heap.objs.size) :
    Inv (compCx X scope (s2.heap.objs.size + 1) N' s2 H1 fp) [] (src.map (pick σ)) (upd H1 s2.heap.objs.size (.lst [])) { s2 with heap := pushCells (lcHeap s2.heap) scope.names } := by
  have k0 : ∀ b o, s2.heap.get? b = some o → (pushCells (lcHeap s2.heap) scope.names).get? b = some o := fun b o e => pushCells_keeps _ _ b o (lcHeap_keeps e)
  have own : ∀ {x : Str} {c : Addr}, (cellsFrom (s2.heap.objs.size + 1 + 1) scope.names []).lookup x = some c → (pushCells (lcHeap s2.heap) scope.names).IsCell c none ∧ s2.heap.objs.size + 1 + 1 ≤ c := fun {x c} h => by
    have := comp_own (h0 := lcHeap s2.heap) (scope := scope) (x := x) (c := c) (by rw [lcHeap_size]; exact h)
    rw [lcHeap_size] at this
    exact this
  have I3 := I.lnew (its := []) (ys := []) (t' := s2.toks) .nil (Nat.zero_le _)
  refine ⟨comp_ok L I f2 fo, rfl, I.bare, Un.laid k0 (Nat.le_refl _) I.fresh, ⟨fun _ => none, ?_, fun i x v e1 e2 e3 => ?_⟩, fun x c e => ?_, ?_, fun x c e => ?_, fun p hp => ?_, ?_, ?_⟩
  · have z := (Heap.Ns.new (s2.heap.push { cls := .type "list", data := .seq ([] : List Value).toArray }) (.type "dict")).keeps (pushCells_keeps scope.names _)
    rw [Heap.size_push] at z
    exact z
  · rw [List.getElem?_map] at e2
    cases es : src[i]? with
    | none =>
      rw [es] at e2
      cases e2
    | some o =>
      rw [es] at e2
      cases o with
      | none => cases e2
      | some j =>
        have e2' : (σ[j]?).getD none = some v := Option.some.inj e2
        have e4 : σ[j]? = some (some v) := by
          cases ej : σ[j]? with
          | none =>
            rw [ej] at e2'
            cases e2'
          | some w =>
            rw [ej] at e2'
            exact congrArg some e2'
        obtain ⟨h1, h2⟩ := L.src i j x e1 es
        have hk : X.env.scope.names.lookup x = some .cell := L.cap _ h2 rfl
        obtain ⟨m, hn, hl⟩ := I.loc
        obtain ⟨u, r, lk⟩ := hl j x v h1 e4 (.inr (.inl hk))
        refine ⟨u, r, ?_⟩
        rcases lk with ⟨z, _⟩ | ⟨_, c, hc, hi⟩
        · have z' : X.env.scope.names.lookup x = some .local := z
          rw [hk] at z'
          cases z'
        · refine .inr ⟨?_, c, ?_, ?_⟩
          · rcases e3 with e3 | e3 | e3
            · obtain ⟨k1, m1, m2⟩ := relabel_of e3
              have o1 := L.one _ m1
              have o2 := L.one _ h2
              rw [o1] at o2
              rcases m2 with m2 | ⟨_, m2⟩
              · rw [← m2] at o2
                cases o2
              · cases m2
            · exact .inl e3
            · exact .inr e3
          · have z : ((cellsFrom (s2.heap.objs.size + 1 + 1) scope.names (closL X.env scope.names [])).lookup x).isSome = true := cellsFrom_has _ _ _ _ (.inr (closL_has _ _ _ _ (.inl h2)))
            obtain ⟨c', hc'⟩ := Option.isSome_iff_exists.mp z
            have e : c' = c := by
              rcases comp_cell L I hc' with q | ⟨_, q⟩
              · rcases cellsFrom_key _ _ _ _ _ q with q | q
                · cases q
                · have o1 := L.one _ q
                  have o2 := L.one _ h2
                  rw [o1] at o2
                  cases o2
              · rw [hc] at q
                exact (Option.some.inj q).symm
            rw [← e]
            exact hc'
          · obtain ⟨ob, ho, hd⟩ := hi
            exact ⟨ob, k0 _ _ ho, hd⟩
  · rcases comp_cell L I e with q | ⟨_, q⟩
    · exact ⟨none, (own q).1⟩
    · obtain ⟨v, ob, ho, hd⟩ := I.cell x c q
      exact ⟨v, ob, k0 _ _ ho, hd⟩
  · show upd H1 s2.heap.objs.size (.lst []) (s2.heap.objs.size + 1) = none
    rw [upd_ne (show @Ne Nat _ _ by omega)]
    exact I.hok.fresh (show @LE.le Nat _ _ _ by omega)
  · rcases comp_cell L I e with q | ⟨_, q⟩
    · have z := (own q).2
      rw [upd_ne (show @Ne Nat _ _ by omega)]
      exact I.hok.fresh (show @LE.le Nat _ _ _ by omega)
    · have z := comp_old I q
      rw [upd_ne (show @Ne Nat _ _ by omega)]
      exact I.freeC x c q
  · cases hp
  · refine HOk.kept (h := s2.heap.push { cls := .type "list", data := .seq ([] : List Value).toArray }) I3.hok fun b o e => ?_
    exact pushCells_keeps _ _ b o (Heap.get?_push_of_some _ e)
  · show (src.map (pick σ)).length = N'.length
    rw [List.length_map, L.len]
end
section
variable {prog : Program} {w : World} {A : Around} {R : Result → Shared → Prop} {s : Shared}
theorem compLoop_go {elt target iter : Expr} {ifs : List Expr} {scope : Scope} {pos : Pos} {it acc : Value} {env : Env} (I : Nat → Shared → Prop)
    (turn : ∀ n s, I n s → wpAny (model prog w) A (pyNext it) (fun r s₁ => match r with
      | none => R (.ok .next) s₁
      | some v => wpAny (model prog w) A (letOwnedTupleGo target it v) (fun _ s₁' => wpAny (model prog w) A (assign target env v) (fun _ s₂ =>
          wpAny (model prog w) A (forIn ifs true fun c r => if r = true then do let ok ← isTrue c env (eval c env); pure (ForInStep.yield ok) else pure (ForInStep.yield r)) (fun ok s₃ =>
            if ok = true then wpAny (model prog w) A (eval elt env) (fun x s₄ =>
              wpAny (model prog w) A (call (.builtin "list.append") [acc, x]) (fun _ s₅ => ∃ m, m < n ∧ I m s₅) (fun _ _ => False) s₄) (fun _ _ => False) s₃
            else ∃ m, m < n ∧ I m s₃) (fun _ _ => False) s₂) (fun _ _ => False) s₁') (fun _ _ => False) s₁) (fun _ _ => False) s)
    (n : Nat) (h : I n s) :
    codeAny (model prog w) A (.compLoop (.ListComp elt [⟨target, iter, ifs, 0⟩] scope pos) 0 it acc env) R s := by
  refine codeAny_loop rfl I (fun n s hI => ?_) n h
  show wpAny _ A ((compTurn (.ListComp elt [⟨target, iter, ifs, 0⟩] scope pos) 0 it acc env).onRaise (fun x => do noteFrame x env; theTreesLotGoes x)) _ _ s
  refine wpAny_noted ?_
  rw [compTurn_list]
  refine wpAny_bind (wpAny_standAt (wpAny_bind (wpAny_mono (turn n s hI) (fun r s₁ h₁ => ?_) fun _ _ h' => h'.elim)))
  cases r with
  | none => exact wpAny_pure h₁
  | some v =>
    refine wpAny_bind (wpAny_mono h₁ (fun _ s₁' h₁' => wpAny_bind (wpAny_mono h₁' (fun _ s₂ h₂ => wpAny_bind (wpAny_mono h₂ (fun ok s₃ h₃ => ?_) fun _ _ h' => h'.elim)) fun _ _ h' => h'.elim)) fun _ _ h' => h'.elim)
    cases ok with
    | false => exact wpAny_pure ⟨rfl, h₃⟩
    | true =>
      exact wpAny_bind (wpAny_bind (wpAny_mono h₃ (fun x s₄ h₄ => wpAny_bind (wpAny_mono h₄ (fun _ s₅ h₅ => wpAny_pure (wpAny_pure ⟨rfl, h₅⟩)) fun _ _ h' => h'.elim)) fun _ _ h' => h'.elim))
end
section
variable {M : Model} {A : Around} {E : Value → Shared → Prop} {s : Shared}
theorem newEnv_comp {scope : Scope} {globals : Addr} {cl : List (Str × Addr)} {qual : Str} {env : Env} {Q : Env → Shared → Prop}
    (h : Q (newEnv scope s.heap.objs.size globals (cellsFrom (s.heap.objs.size + 1) scope.names cl) qual none .none (some env) builtinsNs) { s with heap := pushCells (s.heap.push { cls := .type "dict", data := .dict #[] }) scope.names }) :
    wpAny M A (newFunctionEnv scope globals cl [] qual none .none (some env)) Q E s := by
  simp only [newFunctionEnv, Option.isSome_some, if_true]
  refine wpAny_bind (wpAny_alloc ?_)
  refine wpAny_bind (wpAny_layCells _ (fun name kind cells => by cases hkc : kind == NameKind.cell <;> simp [hkc]) _ _ _ _ ?_)
  rw [show ({ s with heap := s.heap.push { cls := .type "dict", data := .dict #[] } } : Shared).heap.objs.size = s.heap.objs.size + 1 from Heap.size_push ..]
  rw [List.forIn_nil]
  exact wpAny_bind (wpAny_pure (wpAny_pure h))
end
def PTL (X : Cx) (ifs : List Expr) (t : TT) : Prop :=
  ∀ (pins : List (Addr × Obj)) (s : Shared) (σ : St) (H : Hp) (Q : Bool → Hp → Prop), Inv X pins σ H s → t σ H Q →
    wpAny (model X.prog X.w) X.A (forIn ifs true fun c r => if r = true then do let ok ← isTrue c X.env (eval c X.env); pure (ForInStep.yield ok) else pure (ForInStep.yield r)) (TP X pins σ Q) X.xe s
def tYes : TT := fun _ H Q => Q true H
theorem ptl_nil {X : Cx} : PTL X [] tYes := fun _ _ _ H _ I h => wpAny_tests_nil ⟨H, I, h⟩
theorem ptl_one {X : Cx} {c : Expr} {t : TT} (h : PT X c t) : PTL X [c] t := fun pins s σ H Q I q => wpAny_tests_one (h pins s σ H Q I q)
def LcT (tt : TT) (te : TE) (D : Addr) (Pn : St → Hp → Prop) : St → Hp → Prop := fun σ3 H3 => tt σ3 H3 fun b H4 => if b = true then te σ3 H4 fun v H5 => ∃ ys, H5 D = some (.lst ys) ∧ ys.length < sizeLine ∧ Pn σ3 (upd H5 D (.lst (ys ++ [v]))) else Pn σ3 H4
def LcW (src : List (Option Nat)) (g : TG) (tt : TT) (te : TE) (σ : St) (J : It) (H1 : Hp) (D : Addr) (R : Hp → Prop) : Prop := ∃ W : Nat → Nat → St → Hp → Prop,
  (∃ m, W 0 m (src.map (pick σ)) (upd H1 D (.lst []))) ∧ ∀ i m σ' H', W i m σ' H' →
    (J.stop i H' ∧ R H') ∨
    (J.go i H' ∧ ∃ N : St → Hp → Prop, (∀ σ' H', N σ' H' → ∃ m', m' < m ∧ W (i + 1) m' σ' H') ∧ ∀ x H2, J.yld i H' x H2 → g x σ' H2 (LcT tt te D N))
def tLc (wi : TI) (src : List (Option Nat)) (g : TG) (tt : TT) (te : TE) : TE := fun σ H Q => wi σ H fun J H1 => ∀ D, H1 D = none → LcW src g tt te σ J H1 D fun H' => Q (.ref D) H'
section
variable {X : Cx} {scope : Scope} {N' : List Str} {src : List (Option Nat)} {elt tg iter : Expr} {ifs : List Expr} {pos p : Pos} {wi : TI} {g : TG} {tt : TT} {te : TE}
theorem lc_core {use : Option (Value → Sem Unit)} {pins : List (Addr × Obj)} {σ : St} {H : Hp} {s : Shared} {Q : Value → Shared → Prop} {R : Addr → Hp → Prop} (hc : X.calm = true) (L : LcOk X scope N' src)
    (hi : PI X tg iter wi) (hg : ∀ C s2 H1 fp, PG (compCx X scope C N' s2 H1 fp) tg g) (ht : ∀ C s2 H1 fp, PTL (compCx X scope C N' s2 H1 fp) ifs tt) (he : ∀ C s2 H1 fp, PE (compCx X scope C N' s2 H1 fp) elt te)
    (hs : ∀ x, foldedSetIterable iter X.env x = pure x) (I : Inv X pins σ H s) (h : wi σ H fun J H1 => ∀ D, H1 D = none → LcW src g tt te σ J H1 D (R D))
    (fin : ∀ (D C : Addr) (s' : Shared) (H' : Hp), Inv X pins σ H' s' → R D H' → H' C = none → C ≠ X.env.locals → X.s₀.heap.objs.size ≤ C → (∀ x c, X.env.cells.lookup x = some c → c ≠ C) → (∀ q ∈ X.pn ++ pins, q.1 ≠ C) → (∃ m, s'.heap.Ns C m) →
      compPost (model X.prog X.w) X.A X.xe use Q (.ref D) C (.ok .next) s') :
    wpAny (model X.prog X.w) X.A (comprehension (.ListComp elt [⟨tg, iter, ifs, 0⟩] scope pos) scope X.env p (newList []) false (eval iter X.env) use) Q X.xe s := by
  have capc : ∀ y ∈ scope.names, y.2 = .free → ∃ c, X.env.cells.lookup y.1 = some c := fun y hy hf => I.ok.has y.1 (.inl (L.cap y hy hf))
  refine wpAny_comprehension_free rfl hs (closureFor_eq capc) L.kind (fun y hy hl => by rw [← hl]; exact L.one y hy) (thn (hi pins s σ H _ I h) fun xv s1 h1 => thn h1 fun itv s2 h2 => ?_)
  obtain ⟨it, fp, tn, J, H1, e, I2, T, st2, f2, w⟩ := h2
  subst e
  obtain ⟨W, ⟨m0, w0⟩, turn⟩ := w s2.heap.objs.size I2.fresh
  have fo : ∀ b ∈ fp, b < s2.heap.objs.size := fun b hb => by
    obtain ⟨o, e, _⟩ := T.obj _ _ st2 b hb
    exact Heap.lt_size e
  have I4 := comp_inv L I2 f2 fo
  have k0 : ∀ b o, s2.heap.get? b = some o → (pushCells (lcHeap s2.heap) scope.names).get? b = some o := fun b o e => pushCells_keeps _ _ b o (lcHeap_keeps e)
  refine wpAny_newObj_type (newEnv_comp ?_)
  have sz : ({ s2 with heap := s2.heap.push { cls := .type "list", data := .seq ([] : List Value).toArray } } : Shared).heap.objs.size = s2.heap.objs.size + 1 := Heap.size_push ..
  rw [sz]
  have loop : codeAny (model X.prog X.w) X.A (.compLoop (.ListComp elt [⟨tg, iter, ifs, 0⟩] scope pos) 0 (.ref it) (.ref s2.heap.objs.size) (compCx X scope (s2.heap.objs.size + 1) N' s2 H1 fp).env)
      (compPost (model X.prog X.w) X.A X.xe use Q (.ref s2.heap.objs.size) (s2.heap.objs.size + 1)) { s2 with heap := pushCells (lcHeap s2.heap) scope.names } := by
    refine compLoop_go (fun n s' => ∃ i σ' H', Inv (compCx X scope (s2.heap.objs.size + 1) N' s2 H1 fp) [] σ' H' s' ∧ tn i s'.heap ∧ (∀ b ∈ fp, H' b = none) ∧ W i n σ' H') ?_ m0
      ⟨0, _, _, I4, T.keep _ _ _ st2 (fun b hb o e => k0 b o e), fun b hb => ?_, w0⟩
    · have stat : ∀ {H' : Hp}, (∀ b ∈ fp, H' b = none) → ∀ b ∈ fp, FpOk (compCx X scope (s2.heap.objs.size + 1) N' s2 H1 fp) [] H' b := fun hn b hb =>
        ⟨hn b hb, (I4.ok.exf b hb).1, I4.ok.exfs b hb, .inl hb, (I4.ok.exf b hb).2, fun q hq => by cases hq⟩
      rintro n s5 ⟨i, σ5, H5, I5, st5, fr5, w5⟩
      rcases turn i n σ5 H5 w5 with ⟨stop, qn⟩ | ⟨go, N, hN, step⟩
      · refine thn (T.done (compCx X scope (s2.heap.objs.size + 1) N' s2 H1 fp) rfl rfl rfl hc i [] s5 σ5 H5 (fun _ _ => False) I5 (stat fr5) st5 stop) fun r s6 ⟨hr, I6⟩ => ?_
        subst hr
        have IX : Inv X pins σ H5 s6 := I2.call' (ch := fp) I6.os I6.base I6.hok I6.bare fun b hb => ⟨(f2 b hb).2.2.2.1, (f2 b hb).2.1, (f2 b hb).2.2.2.2.1, (f2 b hb).2.2.2.2.2⟩
        refine fin s2.heap.objs.size (s2.heap.objs.size + 1) s6 H5 IX qn I6.free ?_ ?_ (fun x c e z => ?_) (fun q hq z => ?_) ?_
        · have h9 : @LT.lt Nat _ X.env.locals s2.heap.objs.size := I2.lt
          show @Ne Nat _ _
          omega
        · exact Nat.le_trans I2.sz (Nat.le_succ _)
        · have h9 := comp_old I2 e
          have z' : @Eq Nat c (s2.heap.objs.size + 1) := z
          omega
        · have h9 : @LT.lt Nat _ q.1 s2.heap.objs.size := Heap.lt_size (I2.pin q hq).1
          have z' : @Eq Nat q.1 (s2.heap.objs.size + 1) := z
          omega
        · obtain ⟨m, hn, _⟩ := I6.loc
          exact ⟨m, hn⟩
      · refine thn (T.item (compCx X scope (s2.heap.objs.size + 1) N' s2 H1 fp) rfl rfl rfl hc i [] s5 σ5 H5 (fun _ _ => False) I5 (stat fr5) st5 go) fun r s6 ⟨u, hr, h6⟩ => ?_
        subst hr
        refine thn h6 fun _ s7 ⟨x, H7, I7, r7, y7, st7, fr7⟩ => ?_
        have I7' := I7.pinned (stat fr7) (T.obj _ _ st7)
        have again : ∀ {s' : Shared} {σ' : St} {H' : Hp}, Inv (compCx X scope (s2.heap.objs.size + 1) N' s2 H1 fp) ([] ++ pinsAt fp s7.heap) σ' H' s' → N σ' H' →
            ∃ m, m < n ∧ ∃ i σ' H', Inv (compCx X scope (s2.heap.objs.size + 1) N' s2 H1 fp) [] σ' H' s' ∧ tn i s'.heap ∧ (∀ b ∈ fp, H' b = none) ∧ W i m σ' H' := fun {s' σ' H'} I8 n8 => by
          obtain ⟨m', hm, w8⟩ := hN σ' H' n8
          refine ⟨m', hm, i + 1, σ', H', I8.unpinned, T.keep _ _ _ st7 fun b hb o e => (I8.pin (b, o) (List.mem_append_right _ (List.mem_append_right _ (mem_pinsAt hb e)))).1, fun b hb => ?_, w8⟩
          obtain ⟨o, e, d⟩ := T.obj _ _ st7 b hb
          exact (I8.pin (b, o) (List.mem_append_right _ (List.mem_append_right _ (mem_pinsAt hb e)))).2.1
        refine thn (hg _ _ _ _ _ s7 σ5 H7 x u _ I7' r7 (step x H7 y7)) fun _ s8 ⟨σ8, H8, I8, q8⟩ => ?_
        refine thn (ht _ _ _ _ _ s8 σ8 H8 _ I8 q8) fun b s9 ⟨H9, I9, q9⟩ => ?_
        cases b with
        | false =>
          exact again I9 q9
        | true =>
          refine thn (he _ _ _ _ _ s9 σ8 H9 _ I9 q9) fun v s10 ⟨y, H10, I10, r10, ys, hD, hl, w10⟩ => ?_
          refine thn (mt_append _ s10 σ8 H10 (.ref s2.heap.objs.size) [y] (.ref s2.heap.objs.size) [v] (fun _ H' => H' = upd H10 s2.heap.objs.size (.lst (ys ++ [y]))) I10 rfl (.cons r10 .nil) ⟨_, ys, y, rfl, rfl, hD, hl, rfl⟩) fun z s11 ⟨_, H11, I11, _, e11⟩ => ?_
          subst e11
          exact again I11 w10
    · show upd H1 s2.heap.objs.size (.lst []) b = none
      have h9 : @LT.lt Nat _ b s2.heap.objs.size := fo b hb
      rw [upd_ne (show @Ne Nat _ _ by omega)]
      exact (f2 b hb).1
  refine codeAny_compStart_list loop (T.self _ 0 _ _ _ (T.keep _ _ _ st2 fun b hb o e => k0 b o e) loop)
theorem pe_lc (hc : X.calm = true) (L : LcOk X scope N' src)
    (hi : PI X tg iter wi) (hg : ∀ C s2 H1 fp, PG (compCx X scope C N' s2 H1 fp) tg g) (ht : ∀ C s2 H1 fp, PTL (compCx X scope C N' s2 H1 fp) ifs tt) (he : ∀ C s2 H1 fp, PE (compCx X scope C N' s2 H1 fp) elt te)
    (hs : ∀ x, foldedSetIterable iter X.env x = pure x := by intro _; rfl) : PE X (.ListComp elt [⟨tg, iter, ifs, 0⟩] scope pos) (tLc wi src g tt te) := by
  intro pins s σ H Q I h
  rw [eval_ListComp]
  refine lc_core (use := none) (R := fun D H' => Q (.ref D) H') hc L hi hg ht he hs I h fun D C s' H' I' q hC hL h0 hcl hp ⟨m, hn⟩ => ⟨m, hn, fun h' hsb => ?_⟩
  refine ⟨.ref D, H', ?_, rfl, q⟩
  exact I'.turned (t' := s'.toks) (it := C) (fun b o hb e => hsb.extBut b o hb e) hC hL (.inr h0) hcl hp
theorem ps_setLc {i : Nat} {y : Str} {py spos : Pos} (hc : X.calm = true) (hN : X.N.Nodup) (hy : X.N[i]? = some y) (hx : Loc X.env.scope y) (L : LcOk X scope N' src)
    (hi : PI X tg iter wi) (hg : ∀ C s2 H1 fp, PG (compCx X scope C N' s2 H1 fp) tg g) (ht : ∀ C s2 H1 fp, PTL (compCx X scope C N' s2 H1 fp) ifs tt) (he : ∀ C s2 H1 fp, PE (compCx X scope C N' s2 H1 fp) elt te)
    (hsw : swapsWith (.ListComp elt [⟨tg, iter, ifs, 0⟩] scope pos) (some (.Name y py)) spos.line X.env = pure true := by rfl)
    (hs : ∀ x, foldedSetIterable iter X.env x = pure x := by intro _; rfl) (hf : X.fn y = true ∨ X.env.scope.names.lookup y = some .local := by first | exact .inl rfl | exact .inr rfl | assumption) :
    PS X (.Assign [.Name y py] (.ListComp elt [⟨tg, iter, ifs, 0⟩] scope pos) spos) (tAsg (tLc wi src g tt te) (gName i)) := by
  intro pins s σ H D I h
  rw [exec_Assign_Name_used _ _ _ _ hsw]
  refine wpAny_bind (wpAny_standAt (wpAny_bind ?_))
  show wpAny _ X.A (do let _ ← comprehension (.ListComp elt [⟨tg, iter, ifs, 0⟩] scope pos) scope X.env _ (newList []) false (eval iter X.env) (some (assign (.Name y py) X.env))) _ _ s
  refine wpAny_bind (wpAny_mono (lc_core (use := some (assign (.Name y py) X.env)) (Q := fun _ s' => SP X pins D .next s') (R := fun A H' => D.nx (σ.set i (some (.ref A))) H') hc L hi hg ht he hs I h
    fun A C s' H' I' q hC hL h0 hcl hp ⟨m, hn⟩ => ?_) (fun _ s' hq => wpAny_pure (wpAny_pure hq)) fun _ _ e => e)
  show wpAny _ X.A (assign (.Name y py) X.env (.ref A)) _ _ _
  refine wpAny_assign_Name (store_ok2 (v := .ref A) I' hN hy hx rfl (fun s2 I2 ⟨a, hsa, ha⟩ => ?_) hf)
  have nCa : C ≠ a := by
    rcases ha with rfl | ha
    · exact hL
    · exact (hcl _ _ ha).symm
  refine ⟨m, hn.sameBut hsa nCa, fun h' hsb => ⟨_, H', ?_, q⟩⟩
  exact I2.turned (t' := s2.toks) (it := C) (fun b o hb e => hsb.extBut b o hb e) hC hL (.inr h0) hcl hp
end
section
variable {src : List (Option Nat)} {g : TG} {tt : TT} {te : TE} {σ : St} {H1 : Hp} {D : Addr} {R : Hp → Prop} {K : PySem.W.Frag}
end
end L2
namespace L2
open PySem PySem.Spec PyProof.Rows
section
variable {X : Cx}
theorem PI.or {tg l : Expr} {w1 w2 : TI} (h1 : PI X tg l w1) (h2 : PI X tg l w2) : PI X tg l (fun σ H R => w1 σ H R ∨ w2 σ H R) := by
  intro pins s σ H R I h
  rcases h with h | h
  · exact h1 pins s σ H R I h
  · exact h2 pins s σ H R I h
end
end L2
namespace L2
open PySem PySem.Spec PyProof.Rows
mutual
def IsD (K : PySem.W.Frag) (H : Hp) : PyData → V → Prop
  | .none, v => v = .non
  | .bool b, v => v = .bl b
  | .int i, v => v = .int i
  | .str x, v => v = .str x
  | .tuple ds, v => ∃ a xs, v = .ref a ∧ SqT K H a xs ∧ IsDs K H ds xs
  | .list ds, v => ∃ a xs, v = .ref a ∧ SqL K H a xs ∧ IsDs K H ds xs
  | .dict _, _ => False
def IsDs (K : PySem.W.Frag) (H : Hp) : List PyData → List V → Prop
  | [], xs => xs = []
  | d :: ds, xs => ∃ x r, xs = x :: r ∧ IsD K H d x ∧ IsDs K H ds r
end
section
variable {X : Cx} {pins : List (Addr × Obj)} {σ : St} {H : Hp} {s : Shared}
mutual
theorem IsD.reads (I : Inv X pins σ H s) : ∀ (d : PyData) (x : V) (u : Value), IsD X.K H d x → RelV x u → ∃ as, Reads s.heap u d as
  | .none, x, u, h, r => by
    rw [IsD] at h
    subst h
    cases (show u = Value.none from r)
    exact ⟨_, Reads.none⟩
  | .bool b, x, u, h, r => by
    rw [IsD] at h
    subst h
    cases (show u = Value.bool b from r)
    exact ⟨_, Reads.bool b⟩
  | .int i, x, u, h, r => by
    rw [IsD] at h
    subst h
    obtain ⟨t, e⟩ := (show ∃ t, u = Value.int i t from r)
    cases e
    exact ⟨_, Reads.int i t⟩
  | .str y, x, u, h, r => by
    rw [IsD] at h
    subst h
    obtain ⟨t, e⟩ := (show ∃ t, u = Value.str y t from r)
    cases e
    exact ⟨_, Reads.str y t⟩
  | .tuple ds, x, u, h, r => by
    rw [IsD] at h
    obtain ⟨a, xs, rfl, hq, hd⟩ := h
    cases (show u = Value.ref a from r)
    obtain ⟨its, rv, ⟨o, ho, hc, n, hdt⟩, _⟩ := I.tuple hq
    obtain ⟨as, q⟩ := IsDs.reads I ds xs its hd rv
    exact ⟨as, reads_tuple_at ho hc hdt q⟩
  | .list ds, x, u, h, r => by
    rw [IsD] at h
    obtain ⟨a, xs, rfl, hq, hd⟩ := h
    cases (show u = Value.ref a from r)
    obtain ⟨its, rv, ⟨o, n, ho, hc, _, hdt⟩, _⟩ := I.list hq
    obtain ⟨as, q⟩ := IsDs.reads I ds xs its hd rv
    exact ⟨_, reads_list_at ho hc hdt q⟩
  | .dict _, x, u, h, r => by
    rw [IsD] at h
    exact h.elim
theorem IsDs.reads (I : Inv X pins σ H s) : ∀ (ds : List PyData) (xs : List V) (us : List Value), IsDs X.K H ds xs → Vals xs us → ∃ as, ReadsAll s.heap us ds as
  | [], xs, us, h, r => by
    rw [IsDs] at h
    subst h
    cases r
    exact ⟨_, ReadsAll.nil⟩
  | d :: ds, xs, us, h, r => by
    rw [IsDs] at h
    obtain ⟨x, rest, rfl, hd, hds⟩ := h
    cases r with
    | cons r1 r2 =>
      obtain ⟨as, q⟩ := IsD.reads I d x _ hd r1
      obtain ⟨bs, p⟩ := IsDs.reads I ds rest _ hds r2
      exact ⟨_, ReadsAll.cons q p⟩
end
theorem op_eqD (hu : X.A.units + 64 < cLine) : OpR X (compareOp .Eq) (fun x y H Q => ∃ d e, IsD X.K H d x ∧ IsD X.K H e y ∧ SeqAt.shaped d = true ∧ SeqAt.shaped e = true ∧ Q (.bl (PyData.eqv d e)) H) := by
  intro pins s σ H x y v u Q I rx ry h
  obtain ⟨d, e, hd, he, sd, se, q⟩ := h
  obtain ⟨as, ra⟩ := IsD.reads I d x v hd rx
  obtain ⟨bs, rb⟩ := IsD.reads I e y u he ry
  exact eq_dataH ra rb sd se hu ⟨.bl _, H, I, rfl, q⟩
theorem op_neD (hu : X.A.units + 64 < cLine) : OpR X (compareOp .NotEq) (fun x y H Q => ∃ d e, IsD X.K H d x ∧ IsD X.K H e y ∧ SeqAt.shaped d = true ∧ SeqAt.shaped e = true ∧ Q (.bl (!PyData.eqv d e)) H) := by
  intro pins s σ H x y v u Q I rx ry h
  obtain ⟨d, e, hd, he, sd, se, q⟩ := h
  obtain ⟨as, ra⟩ := IsD.reads I d x v hd rx
  obtain ⟨bs, rb⟩ := IsD.reads I e y u he ry
  exact ne_dataH ra rb sd se hu ⟨.bl _, H, I, rfl, q⟩
end
theorem Same.seqT {K : PySem.W.Frag} {H H' : Hp} {a : Addr} {xs : List V} (e : Same H H') (h : SqT K H a xs) : SqT K H' a xs := by
  rcases h with (h | ⟨o, h⟩) | h
  · exact .inl (.inl (e _ _ h))
  · exact .inl (.inr ⟨o, e _ _ h⟩)
  · exact .inr h
mutual
theorem IsD.same {K : PySem.W.Frag} {H H' : Hp} (e : Same H H') : ∀ (d : PyData) (x : V), IsD K H d x → IsD K H' d x
  | .none, x, h => by rw [IsD] at h ⊢; exact h
  | .bool b, x, h => by rw [IsD] at h ⊢; exact h
  | .int i, x, h => by rw [IsD] at h ⊢; exact h
  | .str y, x, h => by rw [IsD] at h ⊢; exact h
  | .tuple ds, x, h => by
    rw [IsD] at h ⊢
    obtain ⟨a, xs, rfl, hq, hd⟩ := h
    exact ⟨a, xs, rfl, e.seqT hq, IsDs.same e ds xs hd⟩
  | .list ds, x, h => by
    rw [IsD] at h ⊢
    obtain ⟨a, xs, rfl, hq, hd⟩ := h
    exact ⟨a, xs, rfl, e.seq hq, IsDs.same e ds xs hd⟩
  | .dict _, x, h => by rw [IsD] at h; exact h.elim
theorem IsDs.same {K : PySem.W.Frag} {H H' : Hp} (e : Same H H') : ∀ (ds : List PyData) (xs : List V), IsDs K H ds xs → IsDs K H' ds xs
  | [], xs, h => by rw [IsDs] at h ⊢; exact h
  | d :: ds, xs, h => by
    rw [IsDs] at h ⊢
    obtain ⟨x, r, rfl, hd, hds⟩ := h
    exact ⟨x, r, rfl, IsD.same e d x hd, IsDs.same e ds r hds⟩
end
section
variable {K : PySem.W.Frag} {H : Hp}
end
end L2
namespace L2
open PySem PySem.Spec PyProof.Rows
section
variable {X : Cx} (K : PySem.W.Frag)
end
end L2
namespace L2
open PySem PySem.Spec PyProof.Rows
structure Cov (l : List Env) (H H' : Hp) (h B : Heap) : Prop where
  old : ∀ b o, h.get? b = some o → b ∉ frs l → ∃ o', B.get? b = some o' ∧ (H b = none → o' = o)
  trk : ∀ b u, H' b = some u → ∃ o, B.get? b = some o
def CX1 (P : Program) (w : World) : CXT := fun l H s E e s' => ∃ (ea C : Addr) (a0 : Value) (B : Heap) (H' : Hp),
  e = .ref ea ∧ s'.os = s.os ∧ AllBare s'.gens ∧ Un (frs l) [] H H' s.heap s'.heap ∧ HOk P w H' s'.heap ∧ Heap.FlyingW B l ea (.ref C) a0 s'.heap ∧ Cov l H H' s.heap B ∧ E (.ref C) none H'
section
variable {P : Program} {w : World} {l : List Env} {H H' : Hp} {h h1 h2 B : Heap} {ea : Addr} {cls a0 : Value}
theorem fly_hok (ok : HOk P w H' h1) (trk : ∀ b u, H' b = some u → ∃ o, B.get? b = some o) (f1 : B.StaysIn h1) (f2 : B.StaysIn h2) : HOk P w H' h2 := fun a o e =>
  (ok a o e).stay (fun b u hc q => by
    have ⟨o1, e1⟩ : ∃ o1, B.get? b = some o1 := by
      rcases hc with z | z
      · rw [z]
        exact trk a o e
      · exact trk b _ z
    have z := f1 b o1 e1
    rw [q] at z
    cases z
    exact f2 _ _ e1) (fun _ q => q) fun _ _ q => q
theorem fly_on (u : Un (frs l) [] H H' h h1) (c : Cov l H H' h B) (f1 : h1.FunFrames B l) (s2 : B.StaysIn h2) (f2 : h2.FunFrames B l) (sm : h1.UpToSlots h2) : Un (frs l) [] H H' h h2 where
  keep := fun b o q n hb _ => by
    obtain ⟨o', e1, e2⟩ := c.old b o q hb
    rw [e2 n] at e1
    exact s2 b o e1
  slot := fun b o q n hb hx => by
    obtain ⟨sl, e1⟩ := u.slot b o q n hb hx
    obtain ⟨_, o1, e3, hd⟩ := f1.mem hb
    rw [e1] at e3
    cases e3
    obtain ⟨sl', e4⟩ := sm b _ e1 hd
    exact ⟨sl', e4⟩
  free := u.free
  there := fun b o q _ => by
    by_cases hb : b ∈ frs l
    · obtain ⟨_, o1, e3, _⟩ := f2.mem hb
      exact ⟨o1, e3⟩
    · obtain ⟨o', e1, _⟩ := c.old b o q hb
      exact ⟨o', s2 _ _ e1⟩
  tups := u.tups
  frzs := u.frzs
  tbls := u.tbls
end
theorem ObjOk.ex {P : Program} {w : World} {H : Hp} {h : Heap} {a : Addr} {o : HO} (x : ObjOk P w H h a o) : ∃ ob, h.get? a = some ob := by
  cases o with
  | lst xs => obtain ⟨_, _, _, _, z⟩ := x; exact ⟨_, z⟩
  | tup xs => obtain ⟨_, _, _, ob, z, _⟩ := x; exact ⟨ob, z⟩
  | dK kvs => obtain ⟨_, _, _, _, ob, _, _, z, _⟩ := x; exact ⟨ob, z⟩
  | dT kvs => obtain ⟨_, _, _, _, ob, _, _, z, _⟩ := x; exact ⟨ob, z⟩
  | set S n => obtain ⟨ob, _, _, _, z, _⟩ := x; exact ⟨ob, z⟩
  | ins C dx fs => obtain ⟨_, _, _, z, _⟩ := x; exact ⟨_, z⟩
  | own y => exact x
  | xd fs => obtain ⟨_, ⟨ob, _, _, z, _⟩, _⟩ := x; exact ⟨ob, z⟩
  | rng lo hi => obtain ⟨_, _, _, z⟩ := x; exact ⟨_, z⟩
  | frz ob u => obtain ⟨z, _⟩ := x; exact ⟨_, z⟩
  | tbl ps => exact ⟨_, show h.get? a = some _ from x⟩
  | met f y => exact ⟨_, show h.get? a = some _ from x⟩
  | ext φ => obtain ⟨_, z, _⟩ := x; exact z
structure DefCx (X : Cx) : Prop where
  stk : X.stack = X.env :: X.outer
  frm : X.env.frame = some X.env.locals
  ex : X.ex = []
section
variable {X : Cx} {pins : List (Addr × Obj)} {σ : St} {H H' : Hp} {s : Shared} {h' B : Heap}
theorem DefCx.mem (D : DefCx X) {b : Addr} (hb : b ∈ frs X.stack) : b = X.env.locals ∨ b ∈ X.fs := by
  rw [D.stk] at hb
  unfold frs at hb
  rw [List.filterMap_cons, D.frm] at hb
  exact List.mem_cons.mp hb
theorem DefCx.sub (D : DefCx X) {b : Addr} (hb : b ∈ X.fs) : b ∈ frs X.stack := by
  rw [D.stk]
  unfold frs
  rw [List.filterMap_cons, D.frm]
  exact List.mem_cons_of_mem _ hb
theorem DefCx.out (D : DefCx X) (I : Inv X pins σ H s) {b : Addr} {o : Obj} (e : X.s₀.heap.get? b = some o) (hb : b ∉ X.fs) : b ∉ frs X.stack := fun z => by
  rcases D.mem z with z | z
  · exact absurd (Nat.lt_of_lt_of_le (Heap.lt_size e) I.ok.above) (by rw [z]; exact Nat.lt_irrefl _)
  · exact hb z
theorem lift_un (D : DefCx X) (I : Inv X pins σ H s) (u : Un (frs X.stack) [] H H' s.heap h') : Un X.fs [] X.H₀ H' X.s₀.heap h' where
  keep := fun b o q n hb _ => u.keep b o (I.base.keep b o q n hb (by rw [D.ex]; simp)) (I.base.free b o q n (by rw [D.ex]; simp)) (D.out I q hb) (by simp)
  slot := fun b o q n hb _ => by
    obtain ⟨sl, e1⟩ := I.base.slot b o q n hb (by rw [D.ex]; simp)
    obtain ⟨sl', e2⟩ := u.slot b _ e1 (I.base.free b o q n (by rw [D.ex]; simp)) (D.sub hb) (by simp)
    exact ⟨sl', e2⟩
  free := fun b o q n _ => by
    obtain ⟨o', e1⟩ := I.base.there b o q (by rw [D.ex]; simp)
    exact u.free b o' e1 (I.base.free b o q n (by rw [D.ex]; simp)) (by simp)
  there := fun b o q _ => by
    obtain ⟨o', e1⟩ := I.base.there b o q (by rw [D.ex]; simp)
    exact u.there b o' e1 (by simp)
  tups := fun b xs q => u.tups b xs (I.base.tups b xs q)
  frzs := fun b o xs q => u.frzs b o xs (I.base.frzs b o xs q)
  tbls := fun b ps q => by
    obtain ⟨m1, e1⟩ := I.base.tbls b ps q
    obtain ⟨m2, e2⟩ := u.tbls b _ e1
    exact ⟨m1 ++ m2, by rw [e2, Array.append_assoc]⟩
theorem lift_cov (D : DefCx X) (I : Inv X pins σ H s) (c : Cov X.stack H H' s.heap B) : Cov X.outer X.H₀ H' X.s₀.heap B where
  old := fun b o q hb => by
    obtain ⟨o1, e1⟩ := I.base.there b o q (by rw [D.ex]; simp)
    obtain ⟨o', e2, e3⟩ := c.old b o1 e1 (D.out I q hb)
    refine ⟨o', e2, fun n => ?_⟩
    have k := I.base.keep b o q n hb (by rw [D.ex]; simp)
    rw [e1] at k
    cases k
    exact e3 (I.base.free b o q n (by rw [D.ex]; simp))
  trk := c.trk
end
theorem pass1 {P : Program} {w : World} {K : PySem.W.Frag} {mg : Str → Option Value} {base : Heap} {N : List Str} {qual : Str} {scope : Scope} {f : Addr} {cd : Value} {A : Around} {outer : List Env} {s₀ : Shared} {H₀ : Hp} {E E' : XK}
    (hE : ∀ C H', E (.ref C) none H' → E' (.ref C) none H') : Passes (CX1 P w) (cxOf (CX1 P w) P w K mg base N qual scope f cd A outer s₀ H₀ E') E := by
  intro pins σ H s e s' I h
  obtain ⟨ea, C, a0, B, H', rfl, ho, hg, u, ok, fl, c, hw⟩ := h
  have D : DefCx (cxOf (CX1 P w) P w K mg base N qual scope f cd A outer s₀ H₀ E') := ⟨rfl, rfl, rfl⟩
  refine wpAny_leaves_onW I.ok.frames rfl fl fun h' fl' sm => ?_
  have u' := lift_un D I u
  have c' := lift_cov D I c
  refine ⟨ea, C, a0, B, H', rfl, ho.trans I.os, hg, ?_, fly_hok ok c.trk fl.1 fl'.1, fl', c', hE _ _ hw⟩
  refine fly_on u' c' ?_ fl'.1 fl'.2.2.1 sm
  exact fl.2.2.1.2.2
structure ExcCls (K : PySem.W.Frag) (C : Addr) : Prop where
  ok : PySem.W.excIn K C [.type "ValueError", .type "Exception", .type "BaseException", .type "object"] "ValueError.__new__" = true
theorem exc_facts {K : PySem.W.Frag} {C : Addr} {h : Heap} (X : K.In h) (c : ExcCls K C) : ∃ bm N nm q bs hdct sn sub ab col dd k0 k1 k2 k3 k5 mN,
    h.get? C = some (excClassObj nm q C N bs bm hdct sn sub ab col dd k0 k1 k2 k3 k5 "ValueError.__new__") ∧ h.Ns N mN ∧ mN "__init__" = none ∧ OwnTail h [.type "ValueError", .type "Exception", .type "BaseException", .type "object"] bm := by
  have z := c.ok
  unfold PySem.W.excIn at z
  split at z
  case h_2 => cases z
  case h_1 d0 rec slots found =>
    split at z
    case h_2 => cases z
    case h_1 C1 tl s0 s1 s2 s3 nw s5 em es =>
      rw [Bool.and_eq_true, Bool.and_eq_true, Bool.and_eq_true, Bool.and_eq_true, Bool.and_eq_true] at z
      obtain ⟨⟨⟨⟨⟨y1, y2⟩, y3⟩, y4⟩, y5⟩, y6⟩ := z
      cases (beq_iff_eq.mp y1)
      cases (beq_iff_eq.mp y2)
      have y3' : rec.hasDel = false := by simpa using y3
      obtain ⟨⟩ := rec
      obtain ⟨⟩ := slots
      dsimp only at em es y3' y5 y6
      subst em y3' es
      exact ⟨tl, _, _, _, _, _, _, _, _, _, d0, s0, s1, s2, s3, s5, _, X _ _ found, .of_isNs (PySem.W.isNs_of_in X y5), PySem.W.nsMap_none_of_in X y5 (beq_iff_eq.mp y6), PySem.W.tail_of_in X y4⟩
end L2
namespace L2
open PySem PySem.Spec PyProof.Rows
section
variable {X : Cx} {x : Str} {C : Addr} {np cpos pos : Pos} {e : Expr} {es : List Expr} {t : TA}
def tRaise (R : Hp → Prop) (t : TA) : TS := fun _ σ H => t σ H fun vs H1 => vs.length ≤ sizeLine ∧ R H1
theorem ps_raise {R : Hp → Prop} (hc : X.calm = true) (c : ExcCls X.K C) (hg : Gl X x) (hm : X.mg x = some (.ref C)) (ha : PA X (e :: es) t)
    (hR : ∀ pins σ H s h' ea args, Inv X pins σ H s → R H → Heap.MadeExcOf s.heap h' ea (.ref C) args → X.xe (.ref ea) { s with heap := h' })
    (he : starEach (e :: es) X.env = (false, eval e X.env) :: starEach es X.env := by rfl) (hpl : (backTo cpos (starEach es X.env)).any (·.1) = false := by rfl) (hdb : (x == ("__debug__" : Str)) = false := by decide) :
    PS X (.Raise (some (.Call (.Name x np) (e :: es) [] cpos)) none pos) (tRaise R t) := by
  intro pins s σ H D I h
  obtain ⟨tl, N, nm, q, bs, hdct, sn, sub, ab, col, dd, k0, k1, k2, k3, k5, mN, hC, hN, hni, T⟩ := exc_facts I.mod.kin c
  refine wpAny_Raise_call_subT (C := C) (nm := nm) (q := q) (N := N) (bs := bs) (bm := tl) (hdct := hdct) (sn := sn) (sub := sub) (ab := ab) (col := col) (dd := dd) (k0 := k0) (k1 := k1) (k2 := k2) (k3 := k3) (k5 := k5)
    PySem.F.excBase_ValueError (mN := mN) (T.hasType PySem.F.excBase_ValueError.hasBase) (I.ok.hd hc) (by rw [he]; show (false || (backTo cpos (starEach es X.env)).any (·.1)) = false; rw [hpl]; rfl) hni (ld_glob I hg hm ⟨rfl, ?_⟩ hdb)
  have z := ha cpos pins s σ H _ I h
  rw [he] at z ⊢
  refine Calls.evalArgs_plain (wpAny_mono z (fun us s2 ⟨vs, H2, I2, r2, hl, hr⟩ => ?_) fun _ _ y => y)
  refine ⟨rfl, by rw [← r2.length]; exact hl, I2.bk _ _ hC, hN.keeps I2.bk, T.keeps I2.bk, fun h' ea m => hR pins σ H2 s2 h' ea us I2 hr m⟩
end
theorem raise_wish {P : Program} {w : World} {K : PySem.W.Frag} {mg : Str → Option Value} {base : Heap} {N : List Str} {qual : Str} {scope : Scope} {f : Addr} {cd : Value} {A : Around} {outer : List Env} {s₀ : Shared} {H₀ : Hp} {E : XK} {C : Addr} :
    ∀ pins σ H s h' ea args, Inv (cxOf (CX1 P w) P w K mg base N qual scope f cd A outer s₀ H₀ E) pins σ H s → E (.ref C) none H → Heap.MadeExcOf s.heap h' ea (.ref C) args →
      (cxOf (CX1 P w) P w K mg base N qual scope f cd A outer s₀ H₀ E).xe (.ref ea) { s with heap := h' } := by
  intro pins σ H s h' ea args I hw m
  have D : DefCx (cxOf (CX1 P w) P w K mg base N qual scope f cd A outer s₀ H₀ E) := ⟨rfl, rfl, rfl⟩
  have stays : (PySem.W.hideAll s.heap (frs (cxOf (CX1 P w) P w K mg base N qual scope f cd A outer s₀ H₀ E).stack)).StaysIn s.heap := fun b o q => PySem.W.of_hideAll _ q
  have frames := PySem.W.funFrames_hide (as := frs (cxOf (CX1 P w) P w K mg base N qual scope f cd A outer s₀ H₀ E).stack) I.stack fun env he b hb => List.mem_filterMap.mpr ⟨env, he, hb⟩
  refine wpAny_leaves_madeW I.ok.frames rfl stays frames m fun h2 t fl _ _ sm => ?_
  have c : Cov (cxOf (CX1 P w) P w K mg base N qual scope f cd A outer s₀ H₀ E).stack H H s.heap (PySem.W.hideAll s.heap (frs (cxOf (CX1 P w) P w K mg base N qual scope f cd A outer s₀ H₀ E).stack)) :=
    ⟨fun b o q hb => ⟨o, PySem.W.hideAll_get _ q hb, fun _ => rfl⟩, fun b u q => by
      obtain ⟨o, e⟩ := (I.hok b u q).ex
      exact ⟨o, PySem.W.hideAll_get _ e fun z => by rw [I.stkFree b z] at q; cases q⟩⟩
  have up : s.heap.UpToSlots h2 := (Heap.UpToSlots.of_keeps m.keeps).trans sm
  have c' := lift_cov D I c
  refine ⟨ea, C, .ref t, _, H, rfl, I.os, I.bare, ?_, fly_hok I.hok c.trk stays fl.1, fl, c', hw⟩
  refine fly_on (h1 := s.heap) ?_ c' frames.2.2 fl.1 fl.2.2.1 up
  rw [← D.ex]
  exact I.base
end L2
namespace L2
open PySem PySem.Spec PyProof.Rows
def ExcAt (ea C : Addr) : Heap → Prop := fun h => ∃ ob, h.get? ea = some ob ∧ ob.cls = .ref C
section
variable {X : Cx} {ea C : Addr} {pins : List (Addr × Obj)} {σ : St} {H : Hp} {s : Shared}
end
end L2
namespace L2
open PySem PySem.Spec PyProof.Rows
section
variable {X : Cx} {pins : List (Addr × Obj)} {E' : Value → Shared → Prop} {σ : St} {H : Hp} {s : Shared}
end
section
variable {X : Cx} {body : List Stmt} {n : Str} {np hp pos : Pos} {b₀ : Stmt} {suite : List Stmt} {Ch : Addr} {tb ts : TS}
end
end L2
namespace L2
open PySem PySem.Spec PyProof.Rows
section
variable {prog : Program} {w : World} {A : Around} {E : Value → Shared → Prop} {s : Shared}
theorem cat_tup0 {t b : Addr} {ws : List Value} {Q : Value → Shared → Prop} (ht : IsTup s.heap t ([] : List Value).toArray) (hb : IsTup s.heap b ws.toArray) (h : Q (.ref b) s) : wpAny (model prog w) A (binaryOp .Add (.ref t) (.ref b)) Q E s := by
  obtain ⟨⟨c1, d1, y1, z1⟩, ho, hc, n, hd⟩ := id ht
  obtain ⟨⟨c2, d2, y2, z2⟩, ho2, hc2, n2, hd2⟩ := id hb
  simp only at hc hd hc2 hd2
  subst hc hd hc2 hd2
  exact concat_meets ⟨_, ho, rfl⟩ ⟨_, ho2, rfl⟩ noFill_tuple_add seq_tuple_add PySem.F.slot_tuple_add PySem.F.entry_tuple_add (PySem.F.args_tuple_add_2 _ _) (tuple_addW0 t b _ ws.toArray n n2 d1 d2 z1 z2 rfl) ⟨ho, ho2, h⟩
theorem noFill_tup_mul : fillsNumberSlot (.type "tuple") "mul" = pure false :=
  PySem.fillsNumberSlot_seq (id := "tuple.__mul__") (r := some (.builtin "tuple.__rmul__")) PySem.F.slot_tuple_mul.lookup (by decide +kernel) PySem.F.slot_tuple_rmul.lookup (by decide +kernel)
theorem repeat_tup : seqRepeat? (.type "tuple") = pure (some (.builtin "tuple.__mul__")) := by
  unfold seqRepeat?
  rw [PySem.seqSlot_of (T := "tuple") (name := "__mul__") (id := "tuple.__mul__") PySem.F.slot_tuple_mul.lookup (by decide +kernel), PySem.seqSlot_of (T := "tuple") (name := "__rmul__") (id := "tuple.__rmul__") PySem.F.slot_tuple_rmul.lookup (by decide +kernel)]
  rfl
theorem rmul_tup (a : Int) (t : Tok) (l : Addr) (dd : Option Addr) (items : Array Value) (n : Nat) (sl : Array (Option Value)) :
    Meets (Builtin.«int.__rmul__» ⟨[.int a t, .ref l], []⟩) (fun _ R s => s.heap.get? l = some ⟨.type "tuple", dd, .seq items n, sl⟩ ∧ R (.ok (.ret Value.notImplemented)) s) :=
  .of_wp fun prog w A R s h => by
    obtain ⟨hp, g, d, tk, os⟩ := s
    obtain ⟨hl, h⟩ := h
    wp_walk
    exact ⟨_, rfl, h⟩
theorem mul_tup (l : Addr) (dd : Option Addr) (items : Array Value) (n : Nat) (sl : Array (Option Value)) (k : Int) (u : Tok) (hk : 2 ≤ k) (hk2 : k < 2 ^ 62) (hne : items.isEmpty = false) (hz : items.size * k.toNat ≤ sizeLine) :
    Meets (Builtin.«tuple.__mul__» ⟨[.ref l, .int k u], []⟩) (fun _ R s => s.heap.get? l = some ⟨.type "tuple", dd, .seq items n, sl⟩ ∧ R (.ok (.ret (Value.ref s.heap.objs.size))) { s with heap := s.heap.push { cls := Value.type "tuple", data := Data.seq (List.foldl (fun x1 x2 => x1 ++ x2) #[] (List.replicate k.toNat items)) } }) :=
  .of_wp fun prog w A R s h => by
    obtain ⟨hp, g, d, tk, os⟩ := s
    obtain ⟨hl, h⟩ := h
    have f1 := AutoSeq1.idx_int
    have hzi : (items.size : Int) * k ≤ (sizeLine : Int) := by
      have e : (items.size : Int) * k = ((items.size * k.toNat : Nat) : Int) := by
        rw [Int.natCast_mul, Int.toNat_of_nonneg (by omega)]
      rw [e]
      exact Int.ofNat_le.mpr hz
    have c1 : ¬ (decide (k < -2 ^ 63) || decide (k ≥ 2 ^ 63)) = true := by
      rw [Bool.or_eq_true, decide_eq_true_eq, decide_eq_true_eq]
      omega
    have c2 : ¬ (items.isEmpty || k == 1) = true := by
      rw [hne, Bool.false_or]
      intro z
      have := eq_of_beq z
      omega
    have c3 : ¬ (decide (k ≤ 0) || items.isEmpty) = true := by
      rw [hne, Bool.or_false, decide_eq_true_eq]
      omega
    have c4 : ¬ (items.size : Int) * k > (2 ^ 63 - 1) / 8 := by
      have : (sizeLine : Int) ≤ (2 ^ 63 - 1) / 8 := by decide
      omega
    have c5 : ¬ Builtin.Tuple.tupleTooMany ((items.size : Int) * k) = true := by
      unfold Builtin.Tuple.tupleTooMany
      rw [decide_eq_true_eq]
      omega
    have hj : sizeOk (.seq (List.foldl (fun x1 x2 => x1 ++ x2) #[] (List.replicate k.toNat items))) := by
      have e := foldl_rep items.toList k.toNat []
      rw [List.nil_append] at e
      show (List.foldl (fun x1 x2 => x1 ++ x2) #[] (List.replicate k.toNat items)).size ≤ sizeLine
      have e' : List.foldl (fun x1 x2 => x1 ++ x2) #[] (List.replicate k.toNat items) = (List.replicate k.toNat items.toList).flatten.toArray := e
      rw [e', List.size_toArray, len_rep, Array.length_toList, Nat.mul_comm]
      exact hz
    wp_walk using AutoSeq1.wpAny_loadPart' hl
    refine wpAny_ite_false (by simpa using c1) ?_
    refine wpAny_bind (tupleItemsOf_ ⟨_, hl, rfl, n, rfl⟩ ?_)
    refine wpAny_ite_false (by simpa using c2) ?_
    refine wpAny_ite_false (by simpa using c3) ?_
    rw [if_neg c4]
    refine wpAny_ite_false (by simpa using c5) ?_
    unfold Builtin.Tuple.tupleExact
    exact wpAny_bind (wpAny_newObj_type (wpAny_pure ⟨_, rfl, h⟩) hj)
end
end L2
namespace L2
open PySem PySem.Spec PyProof.Rows
section
variable {X : Cx}
end
end L2
namespace L2
open PySem PySem.Spec PyProof.Rows
section
variable {X : Cx} {pins : List (Addr × Obj)} {σ : St} {H : Hp} {s : Shared} {h' : Heap}
theorem Inv.turnedL {t' : Nat} {ch : List Addr} (I : Inv X pins σ H s) (k : ∀ b o, b ∉ ch → s.heap.get? b = some o → h'.get? b = some o) (hf : ∀ b ∈ ch, FpOk X pins H b) : Inv X pins σ H { s with heap := h', toks := t' } := by
  have out : ∀ b u, H b = some u → b ∉ ch := fun b u e z => by
    have q := (hf b z).1
    rw [e] at q
    cases q
  refine I.step (g' := s.gens) (d' := s.drawn) (ch := ch) (fun b hb => ⟨(hf b hb).2.2.2.1, (hf b hb).2.1, (hf b hb).2.2.2.2.1, (hf b hb).2.2.2.2.2⟩) (fun b o _ _ nc e _ => k b o nc e) (fun b o _ _ nc e _ => ⟨o.slots, k b o nc e⟩)
    (fun _ _ _ _ n => n) (fun b o nc e => ⟨o, k b o nc e⟩) (fun _ _ e => e) (fun _ _ _ e => e) (fun b ps e => ⟨#[], by rw [e]; simp⟩) (fun m hm => ?_) (fun b u e => ?_) I.bare
  · obtain ⟨o, es, ep, ho, r⟩ := hm
    exact ⟨o, es, ep, k _ o (fun z => (hf _ z).2.1 rfl) ho, r⟩
  · refine (I.hok b u e).stay (fun c v hc q => k c v ?_ q) (fun _ q => q) fun _ _ q => q
    rcases hc with z | z
    · rw [z]
      exact out b u e
    · exact out c _ z
theorem Inv.turnedT {t' : Nat} {ch : List Addr} {T : Addr} {xs : List V} (I : Inv X pins σ H s) (k : ∀ b o, b ∉ ch → s.heap.get? b = some o → h'.get? b = some o) (hf : ∀ b ∈ ch, FpOk X pins H b) (hT : s.heap.objs.size ≤ T)
    (new : ObjOk X.prog X.w (upd H T (.tup xs)) h' T (.tup xs)) : Inv X pins σ (upd H T (.tup xs)) { s with heap := h', toks := t' } := by
  have hn : H T = none := I.hok.fresh hT
  have out : ∀ b u, H b = some u → b ∉ ch := fun b u e z => by
    have q := (hf b z).1
    rw [e] at q
    cases q
  have up : ∀ b u, H b = some u → upd H T (.tup xs) b = some u := fun b u e => by rw [upd_ne (ne_of_none e hn)]; exact e
  refine I.step (g' := s.gens) (d' := s.drawn) (ch := ch) (fun b hb => ⟨(hf b hb).2.2.2.1, (hf b hb).2.1, (hf b hb).2.2.2.2.1, (hf b hb).2.2.2.2.2⟩) (fun b o _ _ nc e _ => k b o nc e) (fun b o _ _ nc e _ => ⟨o.slots, k b o nc e⟩)
    (fun b o _ e n => ?_) (fun b o nc e => ⟨o, k b o nc e⟩) (fun b ys e => up b _ e) (fun b o u e => up b _ e) (fun b ps e => ⟨#[], by rw [up b _ e]; simp⟩) (fun m hm => ?_) (fun b u e => ?_) I.bare
  · rw [upd_ne (fun z => absurd (Heap.lt_size e) (by rw [z]; exact Nat.not_lt.mpr hT))]
    exact n
  · obtain ⟨o, es, ep, ho, r⟩ := hm
    exact ⟨o, es, ep, k _ o (fun z => (hf _ z).2.1 rfl) ho, r⟩
  · by_cases hb : b = T
    · subst hb
      rw [upd_same] at e
      cases e
      exact new
    · rw [upd_ne hb] at e
      refine (I.hok b u e).stay (fun c v hc q => k c v ?_ q) (fun c z => up c _ z) fun c ys z => up c _ z
      rcases hc with z | z
      · rw [z]
        exact out b u e
      · exact out c _ z
end
def SIt (b : Bool) (h : Heap) (it l : Addr) (i : Nat) : Prop := match b with
  | true => h.IsTupleIter it l i
  | false => h.IsListIter it l i
def SSq (b : Bool) (h : Heap) (l : Addr) (xs : Array Value) : Prop := match b with
  | true => h.IsTuple l xs
  | false => h.IsList l xs
section
variable {b : Bool} {h h' : Heap} {it l : Addr} {i : Nat} {xs : Array Value}
theorem SIt.mv (x : SIt b h it l i) (k : ∀ o, h.get? it = some o → h'.get? it = some o) : SIt b h' it l i := by
  cases b with
  | true =>
    obtain ⟨o, e, r⟩ := x
    exact ⟨o, k o e, r⟩
  | false =>
    obtain ⟨o, e, r⟩ := x
    exact ⟨o, k o e, r⟩
theorem SSq.mv (x : SSq b h l xs) (k : ∀ o, h.get? l = some o → h'.get? l = some o) : SSq b h' l xs := by
  cases b with
  | true =>
    obtain ⟨o, e, r⟩ := x
    exact ⟨o, k o e, r⟩
  | false =>
    obtain ⟨o, e, r⟩ := x
    exact ⟨o, k o e, r⟩
theorem SIt.rec (x : SIt b h it l i) : ∃ o, h.get? it = some o ∧ ∀ v, o.data ≠ .cell v := by
  cases b with
  | true =>
    obtain ⟨o, e, _, d⟩ := x
    exact ⟨o, e, fun v z => by rw [d] at z; cases z⟩
  | false =>
    obtain ⟨o, e, _, d⟩ := x
    exact ⟨o, e, fun v z => by rw [d] at z; cases z⟩
end
section
variable {prog : Program} {w : World} {A : Around} {E : Value → Shared → Prop} {s : Shared}
theorem nextS_item {b : Bool} {it l : Addr} {i : Nat} {xs : Array Value} {x : Value} {Q : Value → Shared → Prop} (hi : SIt b s.heap it l i) (hl : SSq b s.heap l xs) (hx : xs[i]? = some x)
    (hQ : ∀ h', SIt b h' it l (i + 1) → Heap.SameBut it s.heap h' → Q x { s with heap := h' }) : wpAny (model prog w) A (Builtin.SmallTypes.nextOf (.ref it)) Q E s := by
  cases b with
  | false => exact wpAny_nextOf_list_item hi hl hx fun h' a1 a2 => hQ h' a1 a2
  | true =>
    have hit : s.heap.IsTupleIter it l i := hi
    obtain ⟨o, ho, hc, hd⟩ := id hit
    obtain ⟨ol, hol, _, nl, hdl⟩ := (show s.heap.IsTuple l xs from hl)
    unfold Builtin.SmallTypes.nextOf
    refine wpAny_bind (wpAny_callSpecial?_slot (name := Str.ofString "__next__") hit.typeIs F.slot_tuple_iterator_next (wpAny_call_entry F.slot_tuple_iterator_next hit.typeIs F.entry_tuple_iterator_next ?_ (F.args_tuple_iterator_next_1 _)))
    refine (show wpAny _ _ (field (.ref it) 0 >>= _) _ _ s from wpAny_bind (wpAny_field ho hd (x := .ref l) rfl ?_))
    refine (show wpAny _ _ (if (Value.ref l == Value.none) = true then _ else _) _ _ s from ?_)
    rw [if_neg (show ¬ (Value.ref l == Value.none) = true from Bool.false_ne_true)]
    refine (show wpAny _ _ (field (.ref it) 1 >>= _) _ _ s from wpAny_bind (wpAny_field ho hd (x := .int i 0) rfl ?_))
    refine (show wpAny _ _ (seqItems? (.ref l) >>= _) _ _ s from wpAny_bind (wpAny_seqItems hol hdl ?_))
    simp only [Int.toNat_natCast, hx]
    refine wpAny_bind (wpAny_setField ho hd (by simp) (wpAny_pure ⟨x, rfl, wpAny_pure (hQ _ (show Heap.IsTupleIter _ _ _ _ from ?_) (Heap.SameBut.update ..))⟩))
    exact ⟨_, Heap.get?_update_self _ ho (Obj.isFreed_of_fields (Obj.data_mapFields hd _)), (Obj.cls_mapFields ..).trans hc, by rw [Obj.data_mapFields hd]; simp [rawInt]⟩
theorem nextS_end {b : Bool} {it l : Addr} {i : Nat} {xs : Array Value} {Q : Value → Shared → Prop} (hh : A.handled = none) (hi : SIt b s.heap it l i) (hl : SSq b s.heap l xs) (hx : xs[i]? = none)
    (hE : ∀ h' e, Heap.ExtBut it s.heap h' → (∃ o, h'.get? e = some o ∧ o.cls = .type "StopIteration") → E (.ref e) { s with heap := h' }) : wpAny (model prog w) A (Builtin.SmallTypes.nextOf (.ref it)) Q E s := by
  cases b with
  | false => exact wpAny_nextOf_list_end hh hi hl hx hE
  | true =>
    have hit : s.heap.IsTupleIter it l i := hi
    obtain ⟨o, ho, hc, hd⟩ := id hit
    obtain ⟨ol, hol, _, nl, hdl⟩ := (show s.heap.IsTuple l xs from hl)
    unfold Builtin.SmallTypes.nextOf
    refine wpAny_bind (wpAny_callSpecial?_slot (name := Str.ofString "__next__") hit.typeIs F.slot_tuple_iterator_next (wpAny_call_entry F.slot_tuple_iterator_next hit.typeIs F.entry_tuple_iterator_next ?_ (F.args_tuple_iterator_next_1 _)))
    refine (show wpAny _ _ (field (.ref it) 0 >>= _) _ _ s from wpAny_bind (wpAny_field ho hd (x := .ref l) rfl ?_))
    refine (show wpAny _ _ (if (Value.ref l == Value.none) = true then _ else _) _ _ s from ?_)
    rw [if_neg (show ¬ (Value.ref l == Value.none) = true from Bool.false_ne_true)]
    refine (show wpAny _ _ (field (.ref it) 1 >>= _) _ _ s from wpAny_bind (wpAny_field ho hd (x := .int i 0) rfl ?_))
    refine (show wpAny _ _ (seqItems? (.ref l) >>= _) _ _ s from wpAny_bind (wpAny_seqItems hol hdl ?_))
    simp only [Int.toNat_natCast, hx]
    refine wpAny_bind (wpAny_rule (wpAny_bind (wpAny_setField ho hd (by simp) ?_)))
    refine (show wpAny _ _ (newExc (.type "StopIteration") [] >>= _) _ _ _ from wpAny_bind ?_)
    simp only [newExc, newTuple]
    refine wpAny_bind (wpAny_newObj_type ?_ (by size_fits))
    refine wpAny_bind (m := firstArgMember _ _) (wpAny_of_eq (a := Value.none) (by first | rfl | (simp only [firstArgMember]; rfl)) ?_)
    refine wpAny_newObj_type ?_ (by size_fits)
    simp only [raiseNew]
    refine wpAny_bind (wpAny_handled ?_)
    first | rw [show A.in1.handled = none from hh] | rw [hh]
    exact wpAny_bind (wpAny_pure (wpAny_throw (hE _ _ (((Heap.SameBut.update ..).extBut.push _).push _) ⟨_, Heap.get?_push_size _ rfl, rfl⟩)))
end
end L2
namespace L2
open PySem PySem.Spec PyProof.Rows
noncomputable instance decPD : DecidableEq PyData := fun _ _ => Classical.propDecidable _
mutual
def keyD : PyData → Bool
  | .int _ => true
  | .str x => PyData.strOk x
  | .tuple xs => keyDs xs
  | _ => false
def keyDs : List PyData → Bool
  | [] => true
  | x :: xs => keyD x && keyDs xs
end
mutual
theorem keyD_lay : ∀ d, keyD d = true → d.canLay0 = true
  | .int _, _ => by rw [PyData.canLay0]
  | .str x, h => by rw [keyD] at h; rw [PyData.canLay0]; exact h
  | .tuple xs, h => by rw [keyD] at h; rw [PyData.canLay0]; exact keyDs_lay xs h
  | .none, h => by simp [keyD] at h
  | .bool _, h => by simp [keyD] at h
  | .list _, h => by simp [keyD] at h
  | .dict _, h => by simp [keyD] at h
theorem keyDs_lay : ∀ xs, keyDs xs = true → PyData.canLayAll0 xs = true
  | [], _ => by rw [PyData.canLayAll0]
  | x :: xs, h => by
    rw [keyDs, Bool.and_eq_true] at h
    rw [PyData.canLayAll0, keyD_lay x h.1, keyDs_lay xs h.2]
    rfl
end
mutual
theorem eqv_key : ∀ x y, keyD x = true → keyD y = true → PyData.eqv x y = decide (x = y)
  | .int i, y, _, hy => by
    cases y with
    | int j =>
      rw [PyData.eqv]
      by_cases e : i = j
      · rw [e, decide_eq_true rfl]; exact beq_self_eq_true j
      · rw [decide_eq_false fun z => e (PyData.int.inj z)]; exact beq_eq_false_iff_ne.mpr e
    | str x => rw [PyData.eqv, decide_eq_false (by intro z; cases z)]
    | tuple x => rw [PyData.eqv, decide_eq_false (by intro z; cases z)]
    | _ => simp [keyD] at hy
  | .str i, y, _, hy => by
    cases y with
    | str j =>
      rw [PyData.eqv]
      by_cases e : i = j
      · rw [e, decide_eq_true rfl]; exact beq_self_eq_true j
      · rw [decide_eq_false fun z => e (PyData.str.inj z)]; exact beq_eq_false_iff_ne.mpr e
    | int x => rw [PyData.eqv, decide_eq_false (by intro z; cases z)]
    | tuple x => rw [PyData.eqv, decide_eq_false (by intro z; cases z)]
    | _ => simp [keyD] at hy
  | .tuple xs, y, hx, hy => by
    cases y with
    | tuple ys =>
      rw [keyD] at hx hy
      rw [PyData.eqv, eqvAll_key xs ys hx hy]
      by_cases e : xs = ys
      · rw [e, decide_eq_true rfl, decide_eq_true rfl]
      · rw [decide_eq_false e, decide_eq_false fun z => e (PyData.tuple.inj z)]
    | int x => rw [PyData.eqv, decide_eq_false (by intro z; cases z)]
    | str x => rw [PyData.eqv, decide_eq_false (by intro z; cases z)]
    | _ => simp [keyD] at hy
  | .none, _, h, _ => by simp [keyD] at h
  | .bool _, _, h, _ => by simp [keyD] at h
  | .list _, _, h, _ => by simp [keyD] at h
  | .dict _, _, h, _ => by simp [keyD] at h
theorem eqvAll_key : ∀ xs ys, keyDs xs = true → keyDs ys = true → PyData.eqvAll xs ys = decide (xs = ys)
  | [], [], _, _ => by rw [PyData.eqvAll, decide_eq_true rfl]
  | [], y :: ys, _, _ => by rw [PyData.eqvAll, decide_eq_false (by intro z; cases z)]
  | x :: xs, [], _, _ => by rw [PyData.eqvAll, decide_eq_false (by intro z; cases z)]
  | x :: xs, y :: ys, hx, hy => by
    rw [keyDs, Bool.and_eq_true] at hx hy
    rw [PyData.eqvAll, eqv_key x y hx.1 hy.1, eqvAll_key xs ys hx.2 hy.2]
    by_cases e : x = y
    · by_cases e2 : xs = ys
      · rw [e, e2, decide_eq_true rfl, decide_eq_true rfl, decide_eq_true rfl]; rfl
      · rw [decide_eq_false e2, Bool.and_false, decide_eq_false fun z => e2 (List.cons.inj z).2]
    · rw [decide_eq_false e, Bool.false_and, decide_eq_false fun z => e (List.cons.inj z).1]
end
section
variable (w : World)
mutual
def hashD : PyData → Int
  | .int i => hashInt i
  | .str x => hashStr w x
  | .tuple xs => reduceHash (Builtin.Tuple.tupleHashOf (hashDs xs))
  | _ => 0
def hashDs : List PyData → List Int
  | [] => []
  | x :: xs => hashD x :: hashDs xs
end
end
mutual
def drawD : PyData → Nat
  | .tuple xs => drawDs xs + 1
  | .int _ => 1
  | .str _ => 1
  | .none => 1
  | .bool _ => 1
  | .list _ => 1
  | .dict _ => 1
def drawDs : List PyData → Nat
  | [] => 0
  | x :: xs => drawD x + drawDs xs
end
section
variable {prog : Program} {w : World}
theorem keyReads_get {h h' : Heap} {d : Addr} {o : Obj} {es ep} (ho : h.get? d = some o) (hd : o.data = .dict es ep) (hs : Heap.SameBut d h h') {a : Addr} {u : Obj} {vs n} (e : h.get? a = some u) (eu : u.data = .seq vs n) : h'.get? a = some u := by
  refine (hs.2 a ?_).trans e
  rintro rfl
  rw [ho] at e
  cases e
  rw [hd] at eu
  cases eu
mutual
theorem keyReads_keeps {h h' : Heap} {d : Addr} {o : Obj} {es ep} (ho : h.get? d = some o) (hd : o.data = .dict es ep) (hs : Heap.SameBut d h h') :
    ∀ (k : PyData) (v : Value) (as : List Addr), keyD k = true → Reads h v k as → Reads h' v k as
  | .int i, v, as, _, r => by cases r; exact .int _ _
  | .str i, v, as, _, r => by cases r; exact .str _ _
  | .tuple xs, v, as, hk, r => by
    rw [keyD] at hk
    cases r with
    | tuple h1 h2 h3 h4 => exact .tuple (keyReads_get ho hd hs h1 h3) h2 h3 (keyReadsAll_keeps ho hd hs xs _ _ hk h4)
  | .none, _, _, h, _ => by simp [keyD] at h
  | .bool _, _, _, h, _ => by simp [keyD] at h
  | .list _, _, _, h, _ => by simp [keyD] at h
  | .dict _, _, _, h, _ => by simp [keyD] at h
theorem keyReadsAll_keeps {h h' : Heap} {d : Addr} {o : Obj} {es ep} (ho : h.get? d = some o) (hd : o.data = .dict es ep) (hs : Heap.SameBut d h h') :
    ∀ (k : List PyData) (v : List Value) (as : List Addr), keyDs k = true → ReadsAll h v k as → ReadsAll h' v k as
  | [], v, as, _, r => by cases r; exact .nil
  | x :: xs, v, as, hk, r => by
    rw [keyDs, Bool.and_eq_true] at hk
    cases r with
    | cons r rs => exact .cons (keyReads_keeps ho hd hs x _ _ hk.1 r) (keyReadsAll_keeps ho hd hs xs _ _ hk.2 rs)
end
theorem keyHash : ∀ (nn : Nat) (d : PyData) (A : Around) (E : Value → Shared → Prop) (s : Shared) (v : Value) (as : List Addr) (Q : Int → Shared → Prop), keyD d = true → d.depth ≤ nn → A.units + d.depth < cLine → Reads s.heap v d as →
    Q (hashD w d) { s with toks := s.toks + drawD d } → wpAny (model prog w) A (PySem.pyHash v) Q E s
  | nn, .int i, A, E, s, v, as, Q, _, _, _, r, h => by
    cases r with
    | int i t =>
      rw [hashD, drawD] at h
      exact (mixKind prog w).pyHash (mixKind_int prog w i t) h
  | nn, .str i, A, E, s, v, as, Q, _, _, _, r, h => by
    cases r with
    | str i t =>
      rw [hashD, drawD] at h
      exact (mixKind prog w).pyHash (mixKind_str prog w i t) h
  | 0, .tuple ks, A, E, s, v, as, Q, hk, hn, hu, r, h => by
    rw [PyData.depth] at hn
    omega
  | nn + 1, .tuple ks, A, E, s, v, as, Q, hk, hn, hu, r, h => by
    rw [keyD] at hk
    rw [PyData.depth] at hu hn
    rw [hashD, drawD] at h
    cases r with
    | @tuple a o items n xs as' ho hc hd hi =>
      have hT : s.TypeIs (.ref a) "tuple" := ⟨o, ho, hc⟩
      unfold PySem.pyHash
      first | unfold pyHashByItsType | skip
      first | refine wpAny_bind (wpAny_cRoomFor_or (.inr (by omega)) ?_) | skip
      refine wpAny_bind (wpAny_specialOf hT F.slot_tuple_hash.lookup ?_)
      show wpAny _ _ (if (some (Value.builtin "tuple.__hash__") == some Value.none) = true then _ else _) Q E s
      rw [if_neg (by rw [beq_builtin_none]; exact Bool.false_ne_true)]
      refine wpAny_bind (wpAny_specialOf hT F.slot_tuple_hash.lookup ?_)
      show wpAny _ _ (callSpecialIfBoundUnlessNone? (.ref a) "__hash__" _ >>= _) Q E s
      refine wpAny_bind (wpAny_callSpecialIfBoundUnlessNone?_slot hT F.slot_tuple_hash (wpAny_call_entry F.slot_tuple_hash hT F.entry_tuple_hash ?_ (F.args_tuple_hash_1 _)))
      show wpAny _ _ (Builtin.Tuple.tupleItemsOf (.ref a) >>= _) _ _ s
      refine wpAny_bind (wpAny_tupleItemsOf ho hd ?_)
      refine wpAny_bind ?_
      rw [← Array.forIn_toList]
      refine wpAny_forIn_list _
        (fun rest (b : Array Int) s' => ∃ (left : List PyData) (lb : List Addr) (m : Nat), keyDs left = true ∧ PyData.depthAll left ≤ PyData.depthAll ks ∧ ReadsAll s.heap rest left lb ∧ b.toList ++ hashDs w left = hashDs w ks ∧ m + drawDs left = drawDs ks ∧ s' = { s with toks := s.toks + m })
        _ ?_ ?_ _ _ ⟨ks, _, 0, hk, Nat.le_refl _, hi, rfl, Nat.zero_add _, rfl⟩
      · rintro x rest b s' ⟨left, lb, m, hl, hdp, hr, hb, hm, rfl⟩
        cases hr with
        | @cons _ _ d ds _ _ r1 rs =>
          rw [keyDs, Bool.and_eq_true] at hl
          rw [PyData.depthAll] at hdp
          rw [hashDs] at hb
          rw [drawDs] at hm
          refine wpAny_bind (keyHash nn d _ _ _ _ _ _ hl.1 (by omega) ?_ r1 ?_)
          · show A.units + 1 + d.depth < cLine
            omega
          · first
              | exact wpAny_pure ⟨ds, _, m + drawD d, hl.2, by omega, rs, by simp [← hb], by omega, by simp [Nat.add_assoc]⟩
              | exact wpAny_bind (wpAny_pure (wpAny_pure ⟨ds, _, m + drawD d, hl.2, by omega, rs, by simp [← hb], by omega, by simp [Nat.add_assoc]⟩))
      · rintro b s' ⟨left, lb, m, hl, hdp, hr, hb, hm, rfl⟩
        cases hr
        rw [hashDs, List.append_nil] at hb
        rw [drawDs, Nat.add_zero] at hm
        subst hm
        show wpAny _ _ (retInt (Builtin.Tuple.tupleHashOf b.toList)) _ _ _
        rw [hb]
        refine wpAny_ret_mkInt ?_
        show wpAny _ _ (if (decide (-(2 : Int) ^ 63 ≤ Builtin.Tuple.tupleHashOf (hashDs w ks)) && decide (Builtin.Tuple.tupleHashOf (hashDs w ks) < 2 ^ 63)) = true then _ else _) Q E _
        unfold reduceHash at h
        by_cases hr : (decide (-(2 : Int) ^ 63 ≤ Builtin.Tuple.tupleHashOf (hashDs w ks)) && decide (Builtin.Tuple.tupleHashOf (hashDs w ks) < 2 ^ 63)) = true
        · rw [if_pos hr]
          rw [if_pos hr] at h
          exact wpAny_pure (by simpa [Nat.add_assoc] using h)
        · rw [if_neg hr]
          rw [if_neg hr] at h
          exact wpAny_bind (wpAny_rule (wpAny_pure (by simpa [Nat.add_assoc] using h)))
  | _, .none, _, _, _, _, _, _, h, _, _, _, _ => by simp [keyD] at h
  | _, .bool _, _, _, _, _, _, _, h, _, _, _, _ => by simp [keyD] at h
  | _, .list _, _, _, _, _, _, _, h, _, _, _, _ => by simp [keyD] at h
  | _, .dict _, _, _, _, _, _, _, h, _, _, _, _ => by simp [keyD] at h
theorem keyQuiet {A : Around} {E : Value → Shared → Prop} : ∀ (n : Nat) (d : PyData) (s : Shared) (v : Value) (as : List Addr) (Q : Bool → Shared → Prop), keyD d = true → d.depth ≤ n → Reads s.heap v d as → Q true s → wpAny (model prog w) A (eqIsQuiet n v) Q E s
  | n, .int i, s, v, as, Q, _, _, r, h => by
    cases r with
    | int i t => rw [eqIsQuiet_byValue n rfl]; exact wpAny_pure h
  | n, .str i, s, v, as, Q, _, _, r, h => by
    cases r with
    | str i t => rw [eqIsQuiet_byValue n rfl]; exact wpAny_pure h
  | 0, .tuple ks, s, v, as, Q, hk, hu, r, h => by
    rw [PyData.depth] at hu
    omega
  | n + 1, .tuple ks, s, v, as, Q, hk, hu, r, h => by
    rw [keyD] at hk
    rw [PyData.depth] at hu
    cases r with
    | @tuple a o items m xs as' ho hc hd hi =>
      have hT : s.TypeIs (.ref a) "tuple" := ⟨o, ho, hc⟩
      unfold eqIsQuiet
      refine wpAny_bind (wpAny_specialOf hT F.slot_tuple_eq.lookup ?_)
      show wpAny _ _ (isInstance (.ref a) (.type "tuple") >>= _) _ _ s
      refine wpAny_bind (wpAny_isInstance hT isSubtype_tuple_tuple ?_)
      simp only [Bool.not_true, Bool.false_eq_true, if_false]
      refine wpAny_bind (wpAny_seqItems ho hd ?_)
      refine wpAny_bind ?_
      show wpAny _ _ (forIn items _ _) _ _ s
      rw [← Array.forIn_toList]
      refine wpAny_forIn_list _ (fun rest r s' => r.1 = none ∧ s' = s ∧ ∃ (left : List PyData) (lb : List Addr), keyDs left = true ∧ PyData.depthAll left ≤ n ∧ ReadsAll s.heap rest left lb) _ ?_ ?_ _ _ ⟨rfl, rfl, ks, _, hk, by omega, hi⟩
      · rintro v rest r s' ⟨hr, rfl, left, lb, hl, hdp, hrd⟩
        cases hrd with
        | @cons _ _ d ds _ _ r1 rs =>
          rw [keyDs, Bool.and_eq_true] at hl
          rw [PyData.depthAll] at hdp
          refine wpAny_bind (keyQuiet n d _ _ _ _ hl.1 (by omega) r1 ?_)
          simp only [Bool.not_true, Bool.false_eq_true, if_false]
          exact wpAny_pure ⟨rfl, rfl, ds, _, hl.2, by omega, rs⟩
      · rintro ⟨r1, r2⟩ s' ⟨hr, rfl, _⟩
        simp only at hr
        subst hr
        exact wpAny_pure h
  | _, .none, _, _, _, _, h, _, _, _ => by simp [keyD] at h
  | _, .bool _, _, _, _, _, h, _, _, _ => by simp [keyD] at h
  | _, .list _, _, _, _, _, h, _, _, _ => by simp [keyD] at h
  | _, .dict _, _, _, _, _, h, _, _, _ => by simp [keyD] at h
noncomputable def pdKind (prog : Program) (w : World) : HeapKind prog w PyData where
  is := fun h d a => keyD d = true ∧ d.depth ≤ 8 ∧ ∃ as, Reads h (.ref a) d as
  hash := hashD w
  draws := drawD
  room := fun A => A.units + 8 < cLine
  inj := fun x y => by
    obtain ⟨_, _, as, r⟩ := x
    obtain ⟨_, _, bs, q⟩ := y
    exact (r.unique _ _ q).1
  keeps := fun x ho hd hs => by
    obtain ⟨h1, h2, as, r⟩ := x
    exact ⟨h1, h2, as, keyReads_keeps ho hd hs _ _ _ h1 r⟩
  pyHash := fun hu x h => by
    obtain ⟨h1, h2, as, r⟩ := x
    exact keyHash 8 _ _ _ _ _ _ _ h1 h2 (by omega) r h
  eqBool := fun {A E s x y a b Q} hu kx ky h => by
    obtain ⟨h1, h2, as, r⟩ := kx
    obtain ⟨g1, g2, bs, q⟩ := ky
    refine SeqAt.eqAt_reads x y A s _ _ as bs r q (keyD_lay x h1) (keyD_lay y g1) (by omega) prog w E Q ?_
    rw [eqv_key x y h1 g1]
    exact h
  quiet := fun x h => by
    obtain ⟨h1, h2, as, r⟩ := x
    exact keyQuiet 8 _ _ _ _ _ h1 h2 r h
end
end L2
namespace DL
open PySem PySem.Spec L2
inductive D where
  | non | bl (b : Bool) | int (i : Int) | str (x : Str) | tup (l : List D) | lst (l : List D) | dct (ks vs : List D) | exc (c : Str) | scr (ns : List Int)
inductive R (α : Type) where
  | ok (a : α) | rse (c : Str) | bad
def R.bind {α β : Type} (r : R α) (k : α → R β) : R β := match r with
  | .ok a => k a
  | .rse c => .rse c
  | .bad => .bad
theorem R.ok_bind {α β : Type} (a : α) (k : α → R β) : (R.ok a).bind k = k a := rfl
abbrev Ev := List (Option D)
mutual
def toP : D → PyData
  | .non => .none
  | .bl b => .bool b
  | .int i => .int i
  | .str x => .str x
  | .tup l => .tuple (toPs l)
  | .lst l => .list (toPs l)
  | .dct _ _ => .none
  | .exc _ => .none
  | .scr _ => .none
def toPs : List D → List PyData
  | [] => []
  | d :: l => toP d :: toPs l
end
def okKey : D → Bool
  | .tup l => keyDs (toPs l) && decide (PyData.depthAll (toPs l) ≤ 7)
  | _ => false
def DictX (w : World) (a : Addr) (ys : List (PyData × Addr × Value)) (h : Heap) : Prop := ys.length ≤ sizeLine ∧ (a == sysModules) = false ∧
  ∃ o es ep, h.get? a = some o ∧ o.ExactDict ∧ o.data = .dict es ep ∧ es.toList = ys.map (fun x => (⟨hashD w x.1, .ref x.2.1, x.2.2⟩ : DictEntry)) ∧ (ys.map (·.1)).Nodup
def DctO (w : World) (o : Option HO) (a : Addr) (ks : List D) (ys : List (PyData × Addr × Value)) : Prop := o = some (.ext (DictX w a ys)) ∧ ys.map (·.1) = toPs ks ∧ ks.all okKey = true
mutual
def IsD (K : PySem.W.Frag) (mg : Str → Option Value) (ww : World) (H : Hp) : D → V → Prop
  | .non, v => v = .non
  | .bl b, v => v = .bl b
  | .int i, v => v = .int i
  | .str x, v => v = .str x
  | .tup ds, v => ∃ a xs, v = .ref a ∧ SqT K H a xs ∧ IsDs K mg ww H ds xs
  | .lst ds, v => ∃ a xs, v = .ref a ∧ H a = some (.lst xs) ∧ IsDs K mg ww H ds xs
  | .dct ks vs, v => ∃ a ys xs, v = .ref a ∧ DctO ww (H a) a ks ys ∧ IsDs K mg ww H ks (ys.map fun y => V.ref y.2.1) ∧ Vals xs (ys.map (·.2.2)) ∧ IsDs K mg ww H vs xs
  | .exc c, v => ∃ ea C, v = .ref ea ∧ mg c = some (.ref C) ∧ H ea = some (.ext (ExcAt ea C))
  | .scr ns, v => ∃ a, v = .ref a ∧ SqL K H a (ns.map V.int)
def IsDs (K : PySem.W.Frag) (mg : Str → Option Value) (ww : World) (H : Hp) : List D → List V → Prop
  | [], xs => xs = []
  | d :: ds, xs => ∃ x r, xs = x :: r ∧ IsD K mg ww H d x ∧ IsDs K mg ww H ds r
end
section
variable {K : PySem.W.Frag} {mg : Str → Option Value} {ww : World} {H H' : Hp}
theorem DctO.same {ks : List D} {ys : List (PyData × Addr × Value)} {a : Addr} (e : Same H H') (h : DctO ww (H a) a ks ys) : DctO ww (H' a) a ks ys := ⟨e _ _ h.1, h.2⟩
mutual
theorem IsD.same (e : Same H H') : ∀ (d : D) (x : V), IsD K mg ww H d x → IsD K mg ww H' d x
  | .non, x, h => by rw [IsD] at h ⊢; exact h
  | .bl b, x, h => by rw [IsD] at h ⊢; exact h
  | .int i, x, h => by rw [IsD] at h ⊢; exact h
  | .str y, x, h => by rw [IsD] at h ⊢; exact h
  | .tup ds, x, h => by
    rw [IsD] at h ⊢
    obtain ⟨a, xs, rfl, hq, hd⟩ := h
    exact ⟨a, xs, rfl, e.seqT hq, IsDs.same e ds xs hd⟩
  | .lst ds, x, h => by
    rw [IsD] at h ⊢
    obtain ⟨a, xs, rfl, hq, hd⟩ := h
    exact ⟨a, xs, rfl, e _ _ hq, IsDs.same e ds xs hd⟩
  | .dct ks vs, x, h => by
    rw [IsD] at h ⊢
    obtain ⟨a, ys, xs, rfl, hq, hk, hv, hd⟩ := h
    exact ⟨a, ys, xs, rfl, hq.same e, IsDs.same e ks _ hk, hv, IsDs.same e vs xs hd⟩
  | .exc c, x, h => by
    rw [IsD] at h ⊢
    obtain ⟨a, C, rfl, hq, hd⟩ := h
    exact ⟨a, C, rfl, hq, e _ _ hd⟩
  | .scr ns, x, h => by
    rw [IsD] at h ⊢
    obtain ⟨a, rfl, hq⟩ := h
    exact ⟨a, rfl, e.seq hq⟩
theorem IsDs.same (e : Same H H') : ∀ (ds : List D) (xs : List V), IsDs K mg ww H ds xs → IsDs K mg ww H' ds xs
  | [], xs, h => by rw [IsDs] at h ⊢; exact h
  | d :: ds, xs, h => by
    rw [IsDs] at h ⊢
    obtain ⟨x, r, rfl, hd, hds⟩ := h
    exact ⟨x, r, rfl, IsD.same e d x hd, IsDs.same e ds r hds⟩
end
theorem IsDs.len : ∀ {ds : List D} {xs : List V}, IsDs K mg ww H ds xs → xs.length = ds.length
  | [], xs, h => by rw [IsDs] at h; rw [h]; rfl
  | d :: ds, xs, h => by
    rw [IsDs] at h
    obtain ⟨x, r, rfl, _, hds⟩ := h
    rw [List.length_cons, List.length_cons, IsDs.len hds]
theorem IsDs.at : ∀ {ds : List D} {xs : List V} {i : Nat} {x : V}, IsDs K mg ww H ds xs → xs[i]? = some x → ∃ d, ds[i]? = some d ∧ IsD K mg ww H d x
  | [], xs, i, x, h, e => by rw [IsDs] at h; subst h; simp at e
  | d :: ds, xs, i, x, h, e => by
    rw [IsDs] at h
    obtain ⟨y, r, rfl, hd, hds⟩ := h
    cases i with
    | zero => simp at e; subst e; exact ⟨d, rfl, hd⟩
    | succ i =>
      obtain ⟨d', h1, h2⟩ := IsDs.at (i := i) hds (by simpa using e)
      exact ⟨d', by simpa using h1, h2⟩
theorem IsDs.atD : ∀ {ds : List D} {xs : List V} {i : Nat} {d : D}, IsDs K mg ww H ds xs → ds[i]? = some d → ∃ x, xs[i]? = some x ∧ IsD K mg ww H d x
  | [], xs, i, x, h, e => by simp at e
  | d :: ds, xs, i, x, h, e => by
    rw [IsDs] at h
    obtain ⟨y, r, rfl, hd, hds⟩ := h
    cases i with
    | zero => simp at e; subst e; exact ⟨y, rfl, hd⟩
    | succ i =>
      obtain ⟨d', h1, h2⟩ := IsDs.atD (i := i) hds (by simpa using e)
      exact ⟨d', by simpa using h1, h2⟩
theorem IsDs.append : ∀ {ds es : List D} {xs ys : List V}, IsDs K mg ww H ds xs → IsDs K mg ww H es ys → IsDs K mg ww H (ds ++ es) (xs ++ ys)
  | [], es, xs, ys, h, k => by rw [IsDs] at h; subst h; exact k
  | d :: ds, es, xs, ys, h, k => by
    rw [IsDs] at h
    obtain ⟨x, r, rfl, hd, hds⟩ := h
    show IsDs K mg ww H (d :: (ds ++ es)) (x :: (r ++ ys))
    rw [IsDs]
    exact ⟨x, _, rfl, hd, IsDs.append hds k⟩
theorem IsDs.take : ∀ (n : Nat) {ds : List D} {xs : List V}, IsDs K mg ww H ds xs → IsDs K mg ww H (ds.take n) (xs.take n)
  | 0, ds, xs, h => by rw [List.take_zero, List.take_zero, IsDs]
  | n + 1, [], xs, h => by rw [IsDs] at h; subst h; rw [List.take_nil, List.take_nil, IsDs]
  | n + 1, d :: ds, xs, h => by
    rw [IsDs] at h
    obtain ⟨x, r, rfl, hd, hds⟩ := h
    rw [List.take_succ_cons, List.take_succ_cons, IsDs]
    exact ⟨x, _, rfl, hd, IsDs.take n hds⟩
theorem IsDs.drop : ∀ (n : Nat) {ds : List D} {xs : List V}, IsDs K mg ww H ds xs → IsDs K mg ww H (ds.drop n) (xs.drop n)
  | 0, ds, xs, h => h
  | n + 1, [], xs, h => by rw [IsDs] at h; subst h; rw [List.drop_nil, List.drop_nil, IsDs]
  | n + 1, d :: ds, xs, h => by
    rw [IsDs] at h
    obtain ⟨x, r, rfl, hd, hds⟩ := h
    exact IsDs.drop n hds
theorem IsDs.nil : IsDs K mg ww H [] [] := by rw [IsDs]
theorem IsDs.cons {d : D} {ds : List D} {x : V} {xs : List V} (h : IsD K mg ww H d x) (k : IsDs K mg ww H ds xs) : IsDs K mg ww H (d :: ds) (x :: xs) := by
  rw [IsDs]
  exact ⟨x, xs, rfl, h, k⟩
theorem IsDs.uncons {d : D} {ds : List D} {xs : List V} (h : IsDs K mg ww H (d :: ds) xs) : ∃ x r, xs = x :: r ∧ IsD K mg ww H d x ∧ IsDs K mg ww H ds r := by
  rw [IsDs] at h
  exact h
theorem IsDs.nil' {xs : List V} (h : IsDs K mg ww H [] xs) : xs = [] := by
  rw [IsDs] at h
  exact h
end
def hide (os : List Addr) (H : Hp) : Hp := fun b => if b ∈ os then none else H b
theorem hide_some {os : List Addr} {H : Hp} {b : Addr} {o : HO} : hide os H b = some o ↔ b ∉ os ∧ H b = some o := by
  unfold hide
  by_cases h : b ∈ os
  · rw [if_pos h]
    exact ⟨fun z => (by cases z), fun z => absurd h z.1⟩
  · rw [if_neg h]
    exact ⟨fun z => ⟨h, z⟩, fun z => z.2⟩
theorem hide_le {os : List Addr} {H : Hp} : Same (hide os H) H := fun _ _ h => (hide_some.mp h).2
theorem hide_mono {os : List Addr} {H H' : Hp} (e : Same H H') : Same (hide os H) (hide os H') := fun _ _ h => hide_some.mpr ⟨(hide_some.mp h).1, e _ _ (hide_some.mp h).2⟩
theorem hide_sub {os os' : List Addr} {H : Hp} (h : ∀ a ∈ os, a ∈ os') : Same (hide os' H) (hide os H) := fun b _ z => hide_some.mpr ⟨fun q => (hide_some.mp z).1 (h b q), (hide_some.mp z).2⟩
theorem hide_nil {H : Hp} : Same H (hide [] H) := fun _ _ z => hide_some.mpr ⟨by simp, z⟩
theorem hide_new {os : List Addr} {H H' : Hp} {a : Addr} (e : Same H H') (h : H a = none) : Same (hide os H) (hide (a :: os) H') := fun b o z => by
  obtain ⟨z1, z2⟩ := hide_some.mp z
  refine hide_some.mpr ⟨fun q => ?_, e _ _ z2⟩
  rcases List.mem_cons.mp q with q | q
  · rw [q, h] at z2
    cases z2
  · exact z1 q
section
variable (K : PySem.W.Frag) (mg : Str → Option Value) (ww : World)
def ObjD (Hh : Hp) (a : Addr) (o : Option HO) : D → Prop
  | .lst ds => ∃ xs, o = some (.lst xs) ∧ IsDs K mg ww Hh ds xs
  | .dct ks vs => ∃ ys xs, DctO ww o a ks ys ∧ IsDs K mg ww Hh ks (ys.map fun y => V.ref y.2.1) ∧ Vals xs (ys.map (·.2.2)) ∧ IsDs K mg ww Hh vs xs
  | _ => False
inductive Md where
  | d | b | f
def Rep (md : Md) (H0 : Hp) (os : List Addr) (H' : Hp) (d : D) (v : V) : Prop := match md with
  | .d => IsD K mg ww (hide os H') d v
  | .b => IsD K mg ww (hide os H') d v ∨ ∃ a, v = .ref a ∧ a ∈ os ∧ ObjD K mg ww (hide os H') a (H' a) d
  | .f => ∃ a, v = .ref a ∧ H0 a = none ∧ ObjD K mg ww (hide (a :: os) H') a (H' a) d
def Out (md : Md) (E : XK) (os : List Addr) (H : Hp) (r : R D) (Q : VK) : Prop := match r with
  | .ok d => ∀ v H', Same H H' → Rep K mg ww md H os H' d v → Q v H'
  | .rse c => ∃ C, mg c = some (.ref C) ∧ ∀ H', Same H H' → E (.ref C) none H'
  | .bad => False
def OutT (E : XK) (H : Hp) (r : R Bool) (Q : Bool → Hp → Prop) : Prop := match r with
  | .ok b => ∀ H', Same H H' → Q b H'
  | .rse c => ∃ C, mg c = some (.ref C) ∧ ∀ H', Same H H' → E (.ref C) none H'
  | .bad => False
def OutA (md : Md) (E : XK) (os : List Addr) (H : Hp) (r : R (List D)) (Q : List V → Hp → Prop) : Prop := match r with
  | .ok ds => ∀ vs H', Same H H' → Paired (Rep K mg ww md H' os H') ds vs → Q vs H'
  | .rse c => ∃ C, mg c = some (.ref C) ∧ ∀ H', Same H H' → E (.ref C) none H'
  | .bad => False
structure Hd (ow : List Bool) (os : List Addr) (H : Hp) (σ : St) (ρ : Ev) : Prop where
  len : σ.length = ρ.length
  dom : ∀ a ∈ os, H a ≠ none
  imm : ∀ i d, ow.getD i false = false → ρ[i]? = some (some d) → ∃ v, σ[i]? = some (some v) ∧ IsD K mg ww (hide os H) d v
  own : ∀ i d, ow.getD i false = true → ρ[i]? = some (some d) → ∃ a, σ[i]? = some (some (.ref a)) ∧ a ∈ os ∧ ObjD K mg ww (hide os H) a (H a) d
  apart : ∀ i j a d e, i ≠ j → ow.getD i false = true → ow.getD j false = true → ρ[i]? = some (some d) → ρ[j]? = some (some e) → σ[i]? = some (some (.ref a)) → σ[j]? = some (some (.ref a)) → False
def tE (md : Md) (E : XK) (ow : List Bool) (m : Ev → R D) : TE := fun σ H Q => ∃ os ρ, Hd K mg ww ow os H σ ρ ∧ Out K mg ww md E os H (m ρ) Q
def tT (E : XK) (ow : List Bool) (m : Ev → R Bool) : TT := fun σ H Q => ∃ os ρ, Hd K mg ww ow os H σ ρ ∧ OutT mg E H (m ρ) Q
def tA (md : Md) (E : XK) (ow : List Bool) (m : Ev → R (List D)) : TA := fun σ H Q => ∃ os ρ, Hd K mg ww ow os H σ ρ ∧ OutA K mg ww md E os H (m ρ) Q
end
section
variable {K : PySem.W.Frag} {mg : Str → Option Value} {ww : World} {ow : List Bool} {os : List Addr} {H H' H0 : Hp} {σ : St} {ρ : Ev} {E : XK} {md md' : Md}
theorem ObjD.same {Hh Hh' : Hp} {a : Addr} {o : Option HO} (e : Same Hh Hh') : ∀ {d : D}, ObjD K mg ww Hh a o d → ObjD K mg ww Hh' a o d
  | .lst ds, ⟨xs, h1, h2⟩ => ⟨xs, h1, IsDs.same e ds xs h2⟩
  | .dct ks vs, ⟨ys, xs, h1, h2, h3, h4⟩ => ⟨ys, xs, h1, IsDs.same e ks _ h2, h3, IsDs.same e vs xs h4⟩
theorem ObjD.ex {Hh : Hp} {a : Addr} {o : Option HO} : ∀ {d : D}, ObjD K mg ww Hh a o d → ∃ u, o = some u
  | .lst ds, ⟨xs, h1, h2⟩ => ⟨_, h1⟩
  | .dct ks vs, ⟨ys, xs, h1, h2⟩ => ⟨_, h1.1⟩
theorem ObjD.to {Hh : Hp} {a : Addr} {os : List Addr} (ha : a ∉ os) (e : Same Hh (hide os H)) : ∀ {d : D}, ObjD K mg ww Hh a (H a) d → IsD K mg ww (hide os H) d (.ref a)
  | .lst ds, ⟨xs, h1, h2⟩ => by
    rw [IsD]
    exact ⟨a, xs, rfl, hide_some.mpr ⟨ha, h1⟩, IsDs.same e ds xs h2⟩
  | .dct ks vs, ⟨ys, xs, h1, h2, h3, h4⟩ => by
    rw [IsD]
    exact ⟨a, ys, xs, rfl, ⟨hide_some.mpr ⟨ha, h1.1⟩, h1.2⟩, IsDs.same e ks _ h2, h3, IsDs.same e vs xs h4⟩
theorem Hd.same (h : Hd K mg ww ow os H σ ρ) (e : Same H H') : Hd K mg ww ow os H' σ ρ where
  len := h.len
  dom := fun a ha => by
    cases q : H a with
    | none => exact absurd q (h.dom a ha)
    | some o => rw [e _ _ q]; simp
  imm := fun i d h1 h2 => by
    obtain ⟨v, z1, z2⟩ := h.imm i d h1 h2
    exact ⟨v, z1, IsD.same (hide_mono e) d v z2⟩
  own := fun i d h1 h2 => by
    obtain ⟨a, z1, z2, z3⟩ := h.own i d h1 h2
    refine ⟨a, z1, z2, ?_⟩
    obtain ⟨u, hu⟩ := z3.ex
    rw [e _ _ hu, ← hu]
    exact z3.same (hide_mono e)
  apart := h.apart
theorem Rep.same {d : D} {v : V} (e : Same H H') (h : Rep K mg ww .b H0 os H d v) : Rep K mg ww .b H0 os H' d v := by
  rcases h with h | ⟨a, h1, h2, h3⟩
  · exact .inl (IsD.same (hide_mono e) d v h)
  · refine .inr ⟨a, h1, h2, ?_⟩
    obtain ⟨u, hu⟩ := h3.ex
    rw [e _ _ hu, ← hu]
    exact h3.same (hide_mono e)
theorem Rep.sameD {H1 : Hp} {d : D} {v : V} (e : Same H H') (h : Rep K mg ww .d H0 os H d v) : Rep K mg ww .d H1 os H' d v := IsD.same (hide_mono e) d v h
theorem Rep.sameB {H1 : Hp} {d : D} {v : V} (e : Same H H') (h : Rep K mg ww .b H0 os H d v) : Rep K mg ww .b H1 os H' d v := Rep.same e h
theorem rBl {k : Bool} : Rep K mg ww .d H0 os H (.bl k) (.bl k) := by
  show IsD K mg ww _ _ _
  rw [IsD]
theorem rInt {k : Int} : Rep K mg ww .d H0 os H (.int k) (.int k) := by
  show IsD K mg ww _ _ _
  rw [IsD]
theorem rStr {k : Str} : Rep K mg ww .d H0 os H (.str k) (.str k) := by
  show IsD K mg ww _ _ _
  rw [IsD]
theorem Rep.fd {d : D} {v : V} (dom : ∀ a ∈ os, H0 a ≠ none) (h : Rep K mg ww .f H0 os H' d v) : Rep K mg ww .d H0 os H' d v := by
  obtain ⟨a, rfl, h1, h2⟩ := h
  exact h2.to (fun z => dom a z h1) (hide_sub fun b hb => List.mem_cons_of_mem _ hb)
theorem Rep.db {d : D} {v : V} (h : Rep K mg ww .d H0 os H' d v) : Rep K mg ww .b H0 os H' d v := .inl h
theorem Rep.from {H1 : Hp} {d : D} {v : V} (e : Same H0 H1) (h : Rep K mg ww md H1 os H' d v) : Rep K mg ww md H0 os H' d v := by
  cases md with
  | d => exact h
  | b => exact h
  | f =>
    obtain ⟨a, h1, h2, h3⟩ := h
    exact ⟨a, h1, e.free h2, h3⟩
theorem Out.same {r : R D} {Q : VK} (h : Out K mg ww md E os H r Q) (e : Same H H') : Out K mg ww md E os H' r Q := by
  cases r with
  | ok d => exact fun v H2 s q => h v H2 (e.trans s) (q.from e)
  | rse c =>
    obtain ⟨C, h1, h2⟩ := h
    exact ⟨C, h1, fun H2 s => h2 H2 (e.trans s)⟩
  | bad => exact h
theorem OutT.same {r : R Bool} {Q : Bool → Hp → Prop} (h : OutT mg E H r Q) (e : Same H H') : OutT mg E H' r Q := by
  cases r with
  | ok d => exact fun H2 s => h H2 (e.trans s)
  | rse c =>
    obtain ⟨C, h1, h2⟩ := h
    exact ⟨C, h1, fun H2 s => h2 H2 (e.trans s)⟩
  | bad => exact h
theorem OutA.same {r : R (List D)} {Q : List V → Hp → Prop} (h : OutA K mg ww md E os H r Q) (e : Same H H') : OutA K mg ww md E os H' r Q := by
  cases r with
  | ok d => exact fun v H2 s q => h v H2 (e.trans s) q
  | rse c =>
    obtain ⟨C, h1, h2⟩ := h
    exact ⟨C, h1, fun H2 s => h2 H2 (e.trans s)⟩
  | bad => exact h
theorem out_bind {r : R D} {k : D → R D} {Q : VK} (o : Out K mg ww md E os H (r.bind k) Q) : Out K mg ww md' E os H r (fun v H1 => ∃ d, r = .ok d ∧ Same H H1 ∧ Rep K mg ww md' H os H1 d v ∧ Out K mg ww md E os H1 (k d) Q) := by
  cases r with
  | ok d => exact fun v H1 s q => ⟨d, rfl, s, q, Out.same o s⟩
  | rse c => exact o
  | bad => exact o
theorem out_bindT {r : R D} {k : D → R Bool} {Q : Bool → Hp → Prop} (o : OutT mg E H (r.bind k) Q) : Out K mg ww md' E os H r (fun v H1 => ∃ d, r = .ok d ∧ Same H H1 ∧ Rep K mg ww md' H os H1 d v ∧ OutT mg E H1 (k d) Q) := by
  cases r with
  | ok d => exact fun v H1 s q => ⟨d, rfl, s, q, OutT.same o s⟩
  | rse c => exact o
  | bad => exact o
theorem outT_bindT {r : R Bool} {k : Bool → R Bool} {Q : Bool → Hp → Prop} (o : OutT mg E H (r.bind k) Q) : OutT mg E H r (fun b H1 => r = .ok b ∧ Same H H1 ∧ OutT mg E H1 (k b) Q) := by
  cases r with
  | ok d => exact fun H1 s => ⟨rfl, s, OutT.same o s⟩
  | rse c => exact o
  | bad => exact o
theorem outA_bind {r : R (List D)} {k : List D → R D} {Q : VK} (o : Out K mg ww md E os H (r.bind k) Q) : OutA K mg ww md' E os H r (fun vs H1 => ∃ ds, r = .ok ds ∧ Same H H1 ∧ Paired (Rep K mg ww md' H1 os H1) ds vs ∧ Out K mg ww md E os H1 (k ds) Q) := by
  cases r with
  | ok d => exact fun v H1 s q => ⟨d, rfl, s, q, Out.same o s⟩
  | rse c => exact o
  | bad => exact o
theorem out_bindA {r : R D} {k : D → R (List D)} {Q : List V → Hp → Prop} (o : OutA K mg ww md E os H (r.bind k) Q) : Out K mg ww md' E os H r (fun v H1 => ∃ d, r = .ok d ∧ Same H H1 ∧ Rep K mg ww md' H os H1 d v ∧ OutA K mg ww md E os H1 (k d) Q) := by
  cases r with
  | ok d => exact fun v H1 s q => ⟨d, rfl, s, q, OutA.same o s⟩
  | rse c => exact o
  | bad => exact o
theorem outA_bindA {r : R (List D)} {k : List D → R (List D)} {Q : List V → Hp → Prop} (o : OutA K mg ww md E os H (r.bind k) Q) : OutA K mg ww md' E os H r (fun vs H1 => ∃ ds, r = .ok ds ∧ Same H H1 ∧ Paired (Rep K mg ww md' H1 os H1) ds vs ∧ OutA K mg ww md E os H1 (k ds) Q) := by
  cases r with
  | ok d => exact fun v H1 s q => ⟨d, rfl, s, q, OutA.same o s⟩
  | rse c => exact o
  | bad => exact o
theorem isDs_of : ∀ {ds : List D} {vs : List V}, Paired (Rep K mg ww .d H0 os H) ds vs → IsDs K mg ww (hide os H) ds vs
  | _, _, .nil => IsDs.nil
  | _, _, .cons r t => IsDs.cons r (isDs_of t)
end
end DL
namespace L2
open PySem PySem.Spec PyProof.Rows
theorem PE.mono {X : Cx} {e : Expr} {t t' : TE} (h : PE X e t) (i : ∀ σ H Q, t' σ H Q → t σ H Q) : PE X e t' := fun pins s σ H Q I q => h pins s σ H Q I (i σ H Q q)
theorem PT.mono {X : Cx} {e : Expr} {t t' : TT} (h : PT X e t) (i : ∀ σ H Q, t' σ H Q → t σ H Q) : PT X e t' := fun pins s σ H Q I q => h pins s σ H Q I (i σ H Q q)
theorem PW.mono {X : Cx} {e : Expr} {t t' : TT} (h : PW X e t) (i : ∀ σ H Q, t' σ H Q → t σ H Q) : PW X e t' := fun wh pins s σ H Q I q => h wh pins s σ H Q I (i σ H Q q)
theorem PA.mono {X : Cx} {es : List Expr} {t t' : TA} (h : PA X es t) (i : ∀ σ H Q, t' σ H Q → t σ H Q) : PA X es t' := fun p pins s σ H Q I q => h p pins s σ H Q I (i σ H Q q)
theorem PS.mono {X : Cx} {st : Stmt} {t t' : TS} (h : PS X st t) (i : ∀ D σ H, t' D σ H → t D σ H) : PS X st t' := fun pins s σ H D I q => h pins s σ H D I (i D σ H q)
theorem PSs.mono {X : Cx} {st : List Stmt} {t t' : TS} (h : PSs X st t) (i : ∀ D σ H, t' D σ H → t D σ H) : PSs X st t' := fun pins s σ H D I q => h pins s σ H D I (i D σ H q)
end L2
namespace DL
open PySem PySem.Spec L2
def m2 (ma mb : Ev → R D) (f : D → D → R D) : Ev → R D := fun ρ => (ma ρ).bind fun x => (mb ρ).bind fun y => f x y
def mV (i : Nat) : Ev → R D := fun ρ => match ρ[i]? with
  | some (some d) => .ok d
  | _ => .bad
def mC (d : D) : Ev → R D := fun _ => .ok d
def asBl : D → R Bool
  | .bl b => .ok b
  | _ => .bad
def truD : D → R Bool
  | .non => .ok false
  | .bl b => .ok b
  | .int i => .ok (i != 0)
  | .str y => if y.length ≤ 1000000 then .ok ((y.length : Int) != 0) else .bad
  | .lst l => .ok (!l.isEmpty)
  | .tup l => .ok (!l.isEmpty)
  | _ => .bad
def mTst (m : Ev → R D) : Ev → R Bool := fun ρ => (m ρ).bind asBl
def mTru (m : Ev → R D) : Ev → R Bool := fun ρ => (m ρ).bind truD
def mTn (t : Ev → R Bool) : Ev → R Bool := fun ρ => (t ρ).bind fun k => .ok (!k)
def mTand (ta tb : Ev → R Bool) : Ev → R Bool := fun ρ => (ta ρ).bind fun k => if k = true then tb ρ else .ok false
def mTor (ta tb : Ev → R Bool) : Ev → R Bool := fun ρ => (ta ρ).bind fun k => if k = true then .ok true else tb ρ
def mYes : Ev → R Bool := fun _ => .ok true
def Op2 (K : PySem.W.Frag) (mg : Str → Option Value) (ww : World) (md : Md) (r : R2) (f : D → D → R D) : Prop :=
  ∀ (E : XK) (os : List Addr) (H : Hp) (x y : V) (d e : D) (Q : VK), (∀ a ∈ os, H a ≠ none) → Rep K mg ww .b H os H d x → Rep K mg ww .b H os H e y → Out K mg ww md E os H (f d e) Q → r x y H Q
def OpN (K : PySem.W.Frag) (mg : Str → Option Value) (ww : World) (md : Md) (r : List V → Hp → VK → Prop) (f : List D → R D) : Prop :=
  ∀ (E : XK) (os : List Addr) (H : Hp) (xs : List V) (ds : List D) (Q : VK), (∀ a ∈ os, H a ≠ none) → Paired (Rep K mg ww .b H os H) ds xs → Out K mg ww md E os H (f ds) Q → r xs H Q
theorem Paired.imp {α β : Type} {F G : α → β → Prop} (h : ∀ a b, F a b → G a b) : ∀ {l : List α} {l' : List β}, Paired F l l' → Paired G l l'
  | _, _, .nil => .nil
  | _, _, .cons r t => .cons (h _ _ r) (Paired.imp h t)
section
variable {X : Cx} {K : PySem.W.Frag} {mg : Str → Option Value} {ww : World} {E : XK} {ow : List Bool} {md : Md} {a b c e : Expr} {es : List Expr} {ma mb mc m : Ev → R D} {pos : Pos}
theorem f2d (h : PE X e (tE K mg ww .f E ow m)) : PE X e (tE K mg ww .d E ow m) := h.mono fun σ H Q ⟨os, ρ, hd, o⟩ => ⟨os, ρ, hd, by
  revert o
  cases m ρ with
  | ok d => exact fun o v H' s q => o v H' s (q.fd hd.dom)
  | rse c => exact fun o => o
  | bad => exact fun o => o⟩
theorem bd (h : PE X e (tE K mg ww .d E ow m)) : PE X e (tE K mg ww .b E ow m) := h.mono fun σ H Q ⟨os, ρ, hd, o⟩ => ⟨os, ρ, hd, by
  revert o
  cases m ρ with
  | ok d => exact fun o v H' s q => o v H' s q.db
  | rse c => exact fun o => o
  | bad => exact fun o => o⟩
theorem bf (h : PE X e (tE K mg ww .f E ow m)) : PE X e (tE K mg ww .b E ow m) := bd (f2d h)
theorem e_var (i : Nat) {x : Str} (ho : ow.getD i false = false := by rfl) (hN : X.N[i]? = some x := by rfl) (hv : Vis X.env.scope x := by first | exact Or.inl rfl | exact Or.inr (Or.inl rfl) | exact Or.inr (Or.inr rfl))
    (hd : (x == ("__debug__" : Str)) = false := by decide) (hcd : (x == ("__classdict__" : Str)) = false := by decide) : PE X (.Name x pos) (tE K mg ww .d E ow (mV i)) := (pe_var hN hv hd hcd).mono fun σ H Q ⟨os, ρ, h, o⟩ => by
  unfold mV at o
  split at o
  · rename_i d hi
    obtain ⟨v, h1, h2⟩ := h.imm i d ho hi
    exact ⟨v, h1, o v H (Same.refl H) h2⟩
  · exact o.elim
theorem b_var (i : Nat) {x : Str} (ho : ow.getD i false = true := by rfl) (hN : X.N[i]? = some x := by rfl) (hv : Vis X.env.scope x := by first | exact Or.inl rfl | exact Or.inr (Or.inl rfl) | exact Or.inr (Or.inr rfl))
    (hd : (x == ("__debug__" : Str)) = false := by decide) (hcd : (x == ("__classdict__" : Str)) = false := by decide) : PE X (.Name x pos) (tE K mg ww .b E ow (mV i)) := (pe_var hN hv hd hcd).mono fun σ H Q ⟨os, ρ, h, o⟩ => by
  unfold mV at o
  split at o
  · rename_i d hi
    obtain ⟨v, h1, h2, h3⟩ := h.own i d ho hi
    exact ⟨_, h1, o _ H (Same.refl H) (.inr ⟨v, rfl, h2, h3⟩)⟩
  · exact o.elim
theorem e_of {v : V} {d : D} (h : PE X e (tC v)) (hd : ∀ H, IsD K mg ww H d v) : PE X e (tE K mg ww .d E ow (mC d)) := h.mono fun σ H Q ⟨os, ρ, h, o⟩ => o v H (Same.refl H) (hd _)
theorem e_int {i j pos} : PE X (.Constant (.int i) j pos) (tE K mg ww .d E ow (mC (.int i))) := e_of pe_int fun H => by rw [IsD]
theorem e_bl {b j pos} : PE X (.Constant (.bool b) j pos) (tE K mg ww .d E ow (mC (.bl b))) := e_of pe_bl fun H => by rw [IsD]
theorem e_non {j pos} : PE X (.Constant .none j pos) (tE K mg ww .d E ow (mC .non)) := e_of pe_non fun H => by rw [IsD]
theorem e_str {x j pos} : PE X (.Constant (.str x) j pos) (tE K mg ww .d E ow (mC (.str x))) := e_of pe_str fun H => by rw [IsD]
theorem op_go {r : R2} {f : D → D → R D} {σ : St} {H : Hp} {Q : VK} (hf : Op2 K mg ww md r f) (h : tE K mg ww md E ow (m2 ma mb f) σ H Q) : tOp r (tE K mg ww .b E ow ma) (tE K mg ww .b E ow mb) σ H Q := by
  obtain ⟨os, ρ, hd, o⟩ := h
  refine ⟨os, ρ, hd, ?_⟩
  have z := out_bind (md' := .b) o
  revert z
  cases ma ρ with
  | ok d =>
    intro z v H1 s1 q1
    obtain ⟨d', e', _, _, z⟩ := z v H1 s1 q1
    cases e'
    refine ⟨os, ρ, hd.same s1, ?_⟩
    have y := out_bind (md' := .b) z
    revert y
    cases mb ρ with
    | ok e =>
      intro y u H2 s2 q2
      obtain ⟨d', e', _, _, y⟩ := y u H2 s2 q2
      cases e'
      exact hf E os H2 v u d e Q (hd.same (s1.trans s2)).dom (q1.same s2) q2 y
    | rse c => exact fun y => y
    | bad => exact fun y => y
  | rse c => exact fun z => z
  | bad => exact fun z => z
theorem e_op {op : Operator} {r : R2} {f : D → D → R D} (ho : OpR X (binaryOp op) r) (hf : Op2 K mg ww md r f) (ha : PE X a (tE K mg ww .b E ow ma)) (hb : PE X b (tE K mg ww .b E ow mb)) : PE X (.BinOp a op b pos) (tE K mg ww md E ow (m2 ma mb f)) :=
  (pe_op ho ha hb).mono fun _ _ _ h => op_go hf h
theorem e_cmp {op : CmpOp} {r : R2} {f : D → D → R D} (ho : OpR X (compareOp op) r) (hf : Op2 K mg ww md r f) (ha : PE X a (tE K mg ww .b E ow ma)) (hb : PE X b (tE K mg ww .b E ow mb)) (hm : behindInMarks op b = false) : PE X (.Compare a [op] [b] pos) (tE K mg ww md E ow (m2 ma mb f)) :=
  (pe_cmpR ho ha hb hm).mono fun _ _ _ h => op_go hf h
theorem e_ix {r : R2} {f : D → D → R D} (ho : IxR X r) (hf : Op2 K mg ww md r f) (ha : PE X a (tE K mg ww .b E ow ma)) (hb : PE X b (tE K mg ww .b E ow mb)) (hs : PlainIx b := by exact fun _ _ => rfl) : PE X (.Subscript a b pos) (tE K mg ww md E ow (m2 ma mb f)) :=
  (pe_ix ho ha hb hs).mono fun _ _ _ h => op_go hf h
theorem test_go {r : R2} {f : D → D → R D} {σ : St} {H : Hp} {Q : Bool → Hp → Prop} (hf : Op2 K mg ww .d r f) (h : tT K mg ww E ow (mTst (m2 ma mb f)) σ H Q) : tTest (tOp r (tE K mg ww .b E ow ma) (tE K mg ww .b E ow mb)) σ H Q := by
  obtain ⟨os, ρ, hd, o⟩ := h
  refine op_go (md := .d) hf ⟨os, ρ, hd, ?_⟩
  have z := out_bindT (ww := ww) (K := K) (md' := .d) (os := os) o
  revert z
  cases m2 ma mb f ρ with
  | ok d =>
    intro z v H1 s1 q1
    obtain ⟨d', e', _, q, z⟩ := z v H1 s1 q1
    cases e'
    cases d with
    | bl k =>
      have e2 : v = .bl k := by
        have := q1
        unfold Rep at this
        dsimp only at this
        rw [IsD] at this
        exact this
      exact ⟨k, e2, z H1 (Same.refl H1)⟩
    | _ => exact z.elim
  | rse c => exact fun z => z
  | bad => exact fun z => z
theorem t_cmp {op : CmpOp} {r : R2} {f : D → D → R D} (ho : OpR X (compareOp op) r) (hf : Op2 K mg ww .d r f) (ha : PE X a (tE K mg ww .b E ow ma)) (hb : PE X b (tE K mg ww .b E ow mb)) (hm : behindInMarks op b = false) : PT X (.Compare a [op] [b] pos) (tT K mg ww E ow (mTst (m2 ma mb f))) :=
  (pt_cmpR ho ha hb hm).mono fun _ _ _ h => test_go hf h
def mChain (ma mb mc : Ev → R D) (f g : D → D → R D) : Ev → R D := fun ρ => (ma ρ).bind fun x => (mb ρ).bind fun y => (f x y).bind fun z => (asBl z).bind fun k => if k = true then (mc ρ).bind fun w => g y w else .ok (.bl false)
theorem chain_go {r r' : R2} {f g : D → D → R D} {σ : St} {H : Hp} {Q : VK} (hf : Op2 K mg ww .d r f) (hg : Op2 K mg ww .d r' g) (h : tE K mg ww .d E ow (mChain ma mb mc f g) σ H Q) : tChain r r' (tE K mg ww .b E ow ma) (tE K mg ww .b E ow mb) (tE K mg ww .b E ow mc) σ H Q := by
  obtain ⟨os, ρ, hd, o⟩ := h
  refine ⟨os, ρ, hd, ?_⟩
  have z := out_bind (md' := .b) o
  revert z
  cases ma ρ with
  | ok d =>
    intro z v H1 s1 q1
    obtain ⟨d', e', _, _, z⟩ := z v H1 s1 q1
    cases e'
    refine ⟨os, ρ, hd.same s1, ?_⟩
    have y := out_bind (md' := .b) z
    revert y
    cases mb ρ with
    | ok e =>
      intro y u H2 s2 q2
      obtain ⟨d', e', _, _, y⟩ := y u H2 s2 q2
      cases e'
      refine hf E os H2 v u d e _ (hd.same (s1.trans s2)).dom (q1.same s2) q2 ?_
      have x := out_bind (md' := .d) y
      revert x
      cases f d e with
      | ok t =>
        intro x w H3 s3 q3
        obtain ⟨d', e', _, _, x⟩ := x w H3 s3 q3
        cases e'
        cases t with
        | bl k =>
          have e2 : w = .bl k := by
            have := q3
            unfold Rep at this
            dsimp only at this
            rw [IsD] at this
            exact this
          refine ⟨k, e2, ?_⟩
          cases k with
          | true =>
            rw [if_pos rfl]
            refine ⟨os, ρ, hd.same ((s1.trans s2).trans s3), ?_⟩
            have p := out_bind (md' := .b) (show Out K mg ww .d E os H3 ((mc ρ).bind fun w => g e w) Q from x)
            revert p
            cases mc ρ with
            | ok c' =>
              intro p w2 H4 s4 q4
              obtain ⟨d', e', _, _, p⟩ := p w2 H4 s4 q4
              cases e'
              exact hg E os H4 u w2 e c' Q (hd.same (((s1.trans s2).trans s3).trans s4)).dom (q2.same (s3.trans s4)) q4 p
            | rse c => exact fun y => y
            | bad => exact fun y => y
          | false =>
            rw [if_neg Bool.false_ne_true]
            exact x (.bl false) H3 (Same.refl H3) rBl
        | _ => exact x.elim
      | rse c => exact fun y => y
      | bad => exact fun y => y
    | rse c => exact fun y => y
    | bad => exact fun y => y
  | rse c => exact fun z => z
  | bad => exact fun z => z
theorem e_chain {op op' : CmpOp} {r r' : R2} {f g : D → D → R D} (ho : OpR X (compareOp op) r) (hf : Op2 K mg ww .d r f) (ho' : OpR X (compareOp op') r') (hg : Op2 K mg ww .d r' g) (ha : PE X a (tE K mg ww .b E ow ma)) (hb : PE X b (tE K mg ww .b E ow mb)) (hc : PE X c (tE K mg ww .b E ow mc))
    (hm : lastMarks [op, op'] [b, c] = false := by with_unfolding_all rfl) : PE X (.Compare a [op, op'] [b, c] pos) (tE K mg ww .d E ow (mChain ma mb mc f g)) :=
  (pe_chain ho ho' ha hb hc hm).mono fun _ _ _ h => chain_go hf hg h
theorem isEmpty_ds {H : Hp} {ds : List D} {xs : List V} (h : IsDs K mg ww H ds xs) : ds.isEmpty = xs.isEmpty := by
  have := h.len
  cases ds <;> cases xs <;> simp_all
theorem Rep.lst {H0 H : Hp} {os : List Addr} {ds : List D} {v : V} (h : Rep K mg ww .b H0 os H (.lst ds) v) : ∃ p xs, v = .ref p ∧ H p = some (.lst xs) ∧ IsDs K mg ww (hide os H) ds xs := by
  rcases h with h | ⟨a, h1, h2, h3⟩
  · rw [IsD] at h
    obtain ⟨a, xs, rfl, h1, h2⟩ := h
    exact ⟨a, xs, rfl, hide_le _ _ h1, h2⟩
  · obtain ⟨xs, h4, h5⟩ := h3
    exact ⟨a, xs, h1, h4, h5⟩
theorem Rep.tup {H0 H : Hp} {os : List Addr} {ds : List D} {v : V} (h : Rep K mg ww .b H0 os H (.tup ds) v) : ∃ p xs, v = .ref p ∧ SqT K H p xs ∧ SqT K (hide os H) p xs ∧ IsDs K mg ww (hide os H) ds xs := by
  rcases h with h | ⟨a, h1, h2, h3⟩
  · rw [IsD] at h
    obtain ⟨a, xs, rfl, h1, h2⟩ := h
    exact ⟨a, xs, rfl, hide_le.seqT h1, h1, h2⟩
  · exact h3.elim
theorem Rep.int {H0 H : Hp} {os : List Addr} {i : Int} {v : V} (h : Rep K mg ww .b H0 os H (.int i) v) : v = .int i := by
  rcases h with h | ⟨a, h1, h2, h3⟩
  · rw [IsD] at h
    exact h
  · exact h3.elim
theorem Rep.bl {H0 H : Hp} {os : List Addr} {i : Bool} {v : V} (h : Rep K mg ww .b H0 os H (.bl i) v) : v = .bl i := by
  rcases h with h | ⟨a, h1, h2, h3⟩
  · rw [IsD] at h
    exact h
  · exact h3.elim
theorem Rep.str {H0 H : Hp} {os : List Addr} {i : Str} {v : V} (h : Rep K mg ww .b H0 os H (.str i) v) : v = .str i := by
  rcases h with h | ⟨a, h1, h2, h3⟩
  · rw [IsD] at h
    exact h
  · exact h3.elim
theorem Rep.non {H0 H : Hp} {os : List Addr} {v : V} (h : Rep K mg ww .b H0 os H .non v) : v = .non := by
  rcases h with h | ⟨a, h1, h2, h3⟩
  · rw [IsD] at h
    exact h
  · exact h3.elim
theorem Rep.full {H0 H : Hp} {os : List Addr} {d : D} {v : V} (h : Rep K mg ww .b H0 os H d v) : IsD K mg ww H d v := by
  rcases h with h | ⟨a, h1, h2, h3⟩
  · exact IsD.same hide_le d v h
  · subst h1
    have z := h3.to (os := []) (by simp) (hide_le.trans hide_nil)
    exact IsD.same hide_le d _ z
theorem t_tru (h : PE X e (tE K mg ww .b E ow m)) (hK : X.K = K := by rfl) (he : ∀ whole, isTrue e X.env whole = (do let v ← whole; standAt e.pos; holding [v] (truthy v)) := by intro _; rfl) : PT X e (tT K mg ww E ow (mTru m)) :=
  (pt_truth h he).mono fun σ H Q ⟨os, ρ, hd, o⟩ => by
    subst hK
    refine ⟨os, ρ, hd, ?_⟩
    have z := out_bindT (ww := ww) (K := X.K) (md' := .b) (os := os) o
    revert z
    cases m ρ with
    | ok d =>
      intro z v H1 s1 q1
      obtain ⟨d', e', _, q, z⟩ := z v H1 s1 q1
      cases e'
      cases d with
      | non => exact ⟨false, by rw [q1.non]; rfl, z H1 (Same.refl H1)⟩
      | bl k => exact ⟨k, by rw [q1.bl]; rfl, z H1 (Same.refl H1)⟩
      | int i => exact ⟨i != 0, by rw [q1.int]; rfl, z H1 (Same.refl H1)⟩
      | str y =>
        unfold truD at z
        dsimp only at z
        split at z
        · rename_i hy
          exact ⟨_, by rw [q1.str]; exact ⟨Nat.le_trans hy (by rw [sizeLine_eq]; decide), rfl⟩, z H1 (Same.refl H1)⟩
        · exact z.elim
      | lst l =>
        obtain ⟨p, xs, rfl, h1, h2⟩ := q1.lst
        exact ⟨!l.isEmpty, .inl ⟨xs, SqL.of h1, by rw [isEmpty_ds h2]⟩, z H1 (Same.refl H1)⟩
      | tup l =>
        obtain ⟨p, xs, rfl, h1, _, h2⟩ := q1.tup
        exact ⟨!l.isEmpty, .inr (.inl ⟨xs, h1, by rw [isEmpty_ds h2]⟩), z H1 (Same.refl H1)⟩
      | _ => exact z.elim
    | rse c => exact fun z => z
    | bad => exact fun z => z
variable {ta tb tc : Ev → R Bool} {rest : List Expr}
theorem tnot_go {σ : St} {H : Hp} {Q : Bool → Hp → Prop} (h : tT K mg ww E ow (mTn ta) σ H Q) : tNot (tT K mg ww E ow ta) σ H Q := by
  obtain ⟨os, ρ, hd, o⟩ := h
  refine ⟨os, ρ, hd, ?_⟩
  unfold mTn at o
  revert o
  cases ta ρ with
  | ok d => exact fun z H1 s1 => z H1 s1
  | rse c => exact fun z => z
  | bad => exact fun z => z
theorem t_not (h : PT X a (tT K mg ww E ow ta)) : PT X (.UnaryOp .Not a pos) (tT K mg ww E ow (mTn ta)) := (pt_not h).mono fun _ _ _ h => tnot_go h
theorem w_and1 (h : PT X a (tT K mg ww E ow ta)) : PW X (.BoolOp .And [a] pos) (tT K mg ww E ow ta) := pw_and1 h
theorem w_or1 (h : PT X a (tT K mg ww E ow ta)) : PW X (.BoolOp .Or [a] pos) (tT K mg ww E ow ta) := pw_or1 h
theorem w_and (ha : PT X a (tT K mg ww E ow ta)) (hb : PW X (.BoolOp .And (b :: rest) pos) (tT K mg ww E ow tb)) : PW X (.BoolOp .And (a :: b :: rest) pos) (tT K mg ww E ow (mTand ta tb)) :=
  (pw_and ha hb).mono fun σ H Q ⟨os, ρ, hd, o⟩ => by
    refine ⟨os, ρ, hd, ?_⟩
    have z := outT_bindT o
    revert z
    cases ta ρ with
    | ok k =>
      intro z H1 s1
      obtain ⟨_, _, z⟩ := z H1 s1
      cases k with
      | true =>
        rw [if_pos rfl] at z ⊢
        exact ⟨os, ρ, hd.same s1, z⟩
      | false =>
        rw [if_neg Bool.false_ne_true] at z ⊢
        exact z H1 (Same.refl H1)
    | rse c => exact fun z => z
    | bad => exact fun z => z
theorem w_or (ha : PT X a (tT K mg ww E ow ta)) (hb : PW X (.BoolOp .Or (b :: rest) pos) (tT K mg ww E ow tb)) : PW X (.BoolOp .Or (a :: b :: rest) pos) (tT K mg ww E ow (mTor ta tb)) :=
  (pw_or ha hb).mono fun σ H Q ⟨os, ρ, hd, o⟩ => by
    refine ⟨os, ρ, hd, ?_⟩
    have z := outT_bindT o
    revert z
    cases ta ρ with
    | ok k =>
      intro z H1 s1
      obtain ⟨_, _, z⟩ := z H1 s1
      cases k with
      | true =>
        rw [if_pos rfl] at z ⊢
        exact z H1 (Same.refl H1)
      | false =>
        rw [if_neg Bool.false_ne_true] at z ⊢
        exact ⟨os, ρ, hd.same s1, z⟩
    | rse c => exact fun z => z
    | bad => exact fun z => z
def mAnd (ma mb : Ev → R D) : Ev → R D := fun ρ => (ma ρ).bind fun x => (asBl x).bind fun k => if k = true then mb ρ else .ok (.bl false)
def mNot (ma : Ev → R D) : Ev → R D := fun ρ => (ma ρ).bind fun x => (asBl x).bind fun k => .ok (.bl (!k))
theorem Rep.blD {H0 H : Hp} {os : List Addr} {i : Bool} {v : V} (h : Rep K mg ww .d H0 os H (.bl i) v) : v = .bl i := h.db.bl
theorem e_one {op} (h : PE X a (tE K mg ww .d E ow ma)) : PE X (.BoolOp op [a] pos) (tE K mg ww .d E ow ma) := pe_one h
theorem e_and (ha : PE X a (tE K mg ww .d E ow ma)) (hb : PE X (.BoolOp .And (b :: rest) pos) (tE K mg ww .d E ow mb)) : PE X (.BoolOp .And (a :: b :: rest) pos) (tE K mg ww .d E ow (mAnd ma mb)) :=
  (pe_and ha hb).mono fun σ H Q ⟨os, ρ, hd, o⟩ => by
    refine ⟨os, ρ, hd, ?_⟩
    have z := out_bind (md' := .d) o
    revert z
    cases ma ρ with
    | ok d =>
      intro z v H1 s1 q1
      obtain ⟨d', e', _, q, z⟩ := z v H1 s1 q1
      cases e'
      cases d with
      | bl k =>
        refine ⟨k, q1.blD, ?_⟩
        cases k with
        | true =>
          rw [if_pos rfl]
          exact ⟨os, ρ, hd.same s1, z⟩
        | false =>
          rw [if_neg Bool.false_ne_true]
          exact z _ H1 (Same.refl H1) rBl
      | _ => exact z.elim
    | rse c => exact fun z => z
    | bad => exact fun z => z
theorem e_not (ha : PE X a (tE K mg ww .d E ow ma)) : PE X (.UnaryOp .Not a pos) (tE K mg ww .d E ow (mNot ma)) :=
  (pe_not ha).mono fun σ H Q ⟨os, ρ, hd, o⟩ => by
    refine ⟨os, ρ, hd, ?_⟩
    have z := out_bind (md' := .d) o
    revert z
    cases ma ρ with
    | ok d =>
      intro z v H1 s1 q1
      obtain ⟨d', e', _, q, z⟩ := z v H1 s1 q1
      cases e'
      cases d with
      | bl k => exact ⟨k, q1.blD, z _ H1 (Same.refl H1) rBl⟩
      | _ => exact z.elim
    | rse c => exact fun z => z
    | bad => exact fun z => z
variable {ms : Ev → R (List D)}
def mNil : Ev → R (List D) := fun _ => .ok []
def mCons (m : Ev → R D) (ms : Ev → R (List D)) : Ev → R (List D) := fun ρ => (m ρ).bind fun x => (ms ρ).bind fun xs => .ok (x :: xs)
theorem a_nil : PA X [] (tA K mg ww md E ow mNil) := pa_nil.mono fun σ H Q ⟨os, ρ, hd, o⟩ => o [] H (Same.refl H) .nil
theorem args_go {md : Md} (hm : ∀ {H0 H H' : Hp} {os : List Addr} {d : D} {v : V}, Same H H' → Rep K mg ww md H0 os H d v → Rep K mg ww md H' os H' d v) {σ : St} {H : Hp} {Q : List V → Hp → Prop} (h : tA K mg ww md E ow (mCons m ms) σ H Q) : tCons (tE K mg ww md E ow m) (tA K mg ww md E ow ms) σ H Q := by
  obtain ⟨os, ρ, hd, o⟩ := h
  refine ⟨os, ρ, hd, ?_⟩
  have z := out_bindA (md' := md) o
  revert z
  cases m ρ with
  | ok d =>
    intro z v H1 s1 q1
    obtain ⟨d', e', _, q, z⟩ := z v H1 s1 q1
    cases e'
    refine ⟨os, ρ, hd.same s1, ?_⟩
    have y := outA_bindA (md' := md) z
    revert y
    cases ms ρ with
    | ok ds =>
      intro y vs H2 s2 q2
      obtain ⟨_, e', _, _, y⟩ := y vs H2 s2 q2
      cases e'
      exact y (v :: vs) H2 (Same.refl H2) (.cons (hm s2 q1) q2)
    | rse c => exact fun z => z
    | bad => exact fun z => z
  | rse c => exact fun z => z
  | bad => exact fun z => z
theorem a_d (ha : PE X e (tE K mg ww .d E ow m)) (hr : PA X es (tA K mg ww .d E ow ms)) (hs : starEach (e :: es) X.env = (false, eval e X.env) :: starEach es X.env := by rfl) : PA X (e :: es) (tA K mg ww .d E ow (mCons m ms)) :=
  (pa_cons ha hr hs).mono fun _ _ _ h => args_go (fun s q => Rep.sameD s q) h
theorem a_b (ha : PE X e (tE K mg ww .b E ow m)) (hr : PA X es (tA K mg ww .b E ow ms)) (hs : starEach (e :: es) X.env = (false, eval e X.env) :: starEach es X.env := by rfl) : PA X (e :: es) (tA K mg ww .b E ow (mCons m ms)) :=
  (pa_cons ha hr hs).mono fun _ _ _ h => args_go (fun s q => Rep.sameB s q) h
def mTup (ms : Ev → R (List D)) : Ev → R D := fun ρ => (ms ρ).bind fun ds => if ds.length ≤ 1000 then .ok (.tup ds) else .bad
def mLst (ms : Ev → R (List D)) : Ev → R D := fun ρ => (ms ρ).bind fun ds => if ds.length ≤ 1000 then .ok (.lst ds) else .bad
theorem big1000 {n : Nat} (h : n ≤ 1000) : n ≤ sizeLine := Nat.le_of_lt (small1000 h)
theorem e_tup {x1} (h : PA X es (tA K mg ww .d E ow ms)) : PE X (.Tuple es x1 pos) (tE K mg ww .d E ow (mTup ms)) := (pe_tup h).mono fun σ H Q ⟨os, ρ, hd, o⟩ => by
  refine ⟨os, ρ, hd, ?_⟩
  have z := outA_bind (md' := .d) o
  revert z
  cases ms ρ with
  | ok ds =>
    intro z vs H1 s1 q1
    obtain ⟨_, e', _, q, z⟩ := z vs H1 s1 q1
    cases e'
    have hd1 := isDs_of q1
    split at z
    · rename_i hl
      refine ⟨by rw [hd1.len]; exact big1000 hl, fun p hp => z (.ref p) _ (Wv.same_new hp) ?_⟩
      have np : p ∉ os := fun z => (hd.same s1).dom p z hp
      show IsD K mg ww _ _ _
      rw [IsD]
      exact ⟨p, vs, rfl, SqT.of (hide_some.mpr ⟨np, upd_same⟩), IsDs.same (hide_mono (Wv.same_new hp)) _ _ hd1⟩
    · exact z.elim
  | rse c => exact fun z => z
  | bad => exact fun z => z
theorem new_f {os : List Addr} {H : Hp} {p : Addr} {ds : List D} {vs : List V} (hp : H p = none) (h : IsDs K mg ww (hide os H) ds vs) : Rep K mg ww .f H os (upd H p (.lst vs)) (.lst ds) (.ref p) :=
  ⟨p, rfl, hp, vs, upd_same, IsDs.same (hide_new (Wv.same_new hp) hp) _ _ h⟩
theorem e_lst (h : PA X es (tA K mg ww .d E ow ms)) : PE X (.List es pos) (tE K mg ww .f E ow (mLst ms)) := (pe_lst h).mono fun σ H Q ⟨os, ρ, hd, o⟩ => by
  refine ⟨os, ρ, hd, ?_⟩
  have z := outA_bind (md' := .d) o
  revert z
  cases ms ρ with
  | ok ds =>
    intro z vs H1 s1 q1
    obtain ⟨_, e', _, q, z⟩ := z vs H1 s1 q1
    cases e'
    have hd1 := isDs_of q1
    split at z
    · rename_i hl
      exact ⟨by rw [hd1.len]; exact big1000 hl, fun p hp => z (.ref p) _ (Wv.same_new hp) (new_f hp hd1)⟩
    · exact z.elim
  | rse c => exact fun z => z
  | bad => exact fun z => z
def mFn (f : List D → R D) (ms : Ev → R (List D)) : Ev → R D := fun ρ => (ms ρ).bind f
theorem fn_go {r : List V → Hp → VK → Prop} {f : List D → R D} (hf : OpN K mg ww md r f) {σ : St} {H : Hp} {Q : VK} (h : tE K mg ww md E ow (mFn f ms) σ H Q) : tCB r (tA K mg ww .b E ow ms) σ H Q := by
  obtain ⟨os, ρ, hd, o⟩ := h
  refine ⟨os, ρ, hd, ?_⟩
  have z := outA_bind (md' := .b) o
  revert z
  cases ms ρ with
  | ok ds =>
    intro z vs H1 s1 q1
    obtain ⟨_, e', _, q, z⟩ := z vs H1 s1 q1
    cases e'
    exact hf E os H1 vs ds Q (hd.same s1).dom q1 z
  | rse c => exact fun z => z
  | bad => exact fun z => z
theorem e_callB {id : String} {x : Str} {p : Pos} {r : List V → Hp → VK → Prop} {f : List D → R D} (hc : CallR X (.builtin id) r) (hf : OpN K mg ww md r f) (hm : X.mg x = none) (hv : bootBuiltins x = some (.builtin id)) (ha : PA X (e :: es) (tA K mg ww .b E ow ms)) (hg : Gl X x := by rfl) (hn : x ≠ "__name__" := by decide) (hdb : (x == ("__debug__" : Str)) = false := by decide)
    (he : starEach (e :: es) X.env = (false, eval e X.env) :: starEach es X.env := by rfl) (hpl : (backTo pos (starEach es X.env)).any (·.1) = false := by rfl) : PE X (.Call (.Name x p) (e :: es) [] pos) (tE K mg ww md E ow (mFn f ms)) :=
  (pe_callB hc hg hm hv ha hn hdb he hpl).mono fun _ _ _ h => fn_go hf h
theorem e_callTy {T : String} {x : Str} {p : Pos} {r : List V → Hp → VK → Prop} {f : List D → R D} (hc : CallR X (.type T) r) (hf : OpN K mg ww md r f) (hm : X.mg x = none) (hv : bootBuiltins x = some (.type T)) (ha : PA X (e :: es) (tA K mg ww .b E ow ms)) (hg : Gl X x := by rfl) (hn : x ≠ "__name__" := by decide) (hdb : (x == ("__debug__" : Str)) = false := by decide)
    (he : starEach (e :: es) X.env = (false, eval e X.env) :: starEach es X.env := by rfl) (hpl : (backTo pos (starEach es X.env)).any (·.1) = false := by rfl) : PE X (.Call (.Name x p) (e :: es) [] pos) (tE K mg ww md E ow (mFn f ms)) :=
  (pe_callTy hc hg hm hv ha hn hdb he hpl).mono fun _ _ _ h => fn_go hf h
def spD (K : PySem.W.Frag) (mg : Str → Option Value) (ww : World) (n : Nat) (f : List D → R D) : Sp := fun vs H Q E => vs.length = n ∧ ∃ os ds, (∀ a ∈ os, H a ≠ none) ∧ IsDs K mg ww (hide os H) ds vs ∧ Out K mg ww .d E os H (f ds) Q
theorem e_call {x : Str} {p : Pos} {k n : Nat} {CX : CXT} {f : Addr} {fd : FuncData} {ps : List Str} {g : List D → R D} (F : FnOk X.prog X.w X.K X.mg X.base CX k f fd ps (spD K mg ww n g)) (hr : Room k X.A) (hm : X.mg x = some (.ref f)) (hk : PySem.W.keepIn X.K (.ref f) = true) (hb : Binds X.K fd ps []) (hx : Passes CX X E)
    (ha : PA X (e :: es) (tA K mg ww .d E ow ms)) (hn : ∀ ρ ds, ms ρ = .ok ds → ds.length = n) (hg : Gl X x := by rfl) (hdb : (x == ("__debug__" : Str)) = false := by decide) (he : starEach (e :: es) X.env = (false, eval e X.env) :: starEach es X.env := by rfl) (hpl : (backTo pos (starEach es X.env)).any (·.1) = false := by rfl) :
    PE X (.Call (.Name x p) (e :: es) [] pos) (tE K mg ww .d E ow (mFn g ms)) := (pe_call (E := E) F hr hg hm hk hb .nil hx ha hdb he hpl).mono fun σ H Q ⟨os, ρ, hd, o⟩ => by
  refine ⟨os, ρ, hd, ?_⟩
  have z := outA_bind (md' := .d) o
  have len := hn ρ
  revert z len
  cases ms ρ with
  | ok ds =>
    intro z len vs H1 s1 q1
    obtain ⟨_, e', _, q, z⟩ := z vs H1 s1 q1
    cases e'
    have hd1 := isDs_of q1
    rw [List.append_nil]
    exact ⟨by rw [hd1.len]; exact len ds rfl, os, ds, (hd.same s1).dom, hd1, z⟩
  | rse c => exact fun z _ => z
  | bad => exact fun z _ => z
theorem n_nil {n : Nat} (h : n = 0 := by rfl) : ∀ ρ ds, mNil ρ = .ok ds → ds.length = n := fun ρ ds e => by
  cases e
  exact h.symm
theorem n_cons {n : Nat} (h : ∀ ρ ds, ms ρ = .ok ds → ds.length = n) : ∀ ρ ds, mCons m ms ρ = .ok ds → ds.length = n + 1 := fun ρ ds e => by
  unfold mCons at e
  have := h ρ
  revert e this
  cases m ρ with
  | ok d =>
    cases ms ρ with
    | ok xs =>
      intro e this
      cases e
      rw [List.length_cons, this xs rfl]
    | rse c => intro e; cases e
    | bad => intro e; cases e
  | rse c => intro e; cases e
  | bad => intro e; cases e
end
end DL
namespace DL
open PySem PySem.Spec L2
section
variable (K : PySem.W.Frag) (mg : Str → Option Value) (ww : World)
def ItD (st : Bool) (os : List Addr) (J : It) (H1 : Hp) (items : List D) : Prop := ∀ (i : Nat) (os' : List Addr) (H' : Hp), (∀ a ∈ os', H' a ≠ none) → Same (hide os H1) (hide os' H') → (st = true → Same H1 H') →
  (∀ d, items[i]? = some d → J.go i H' ∧ ∀ x H2, J.yld i H' x H2 → Same H' H2 ∧ IsD K mg ww (hide os' H2) d x) ∧ (items.length ≤ i → J.stop i H')
def OutI (st : Bool) (E : XK) (os : List Addr) (H : Hp) (r : R (List D)) (Q : It → Hp → Prop) : Prop := match r with
  | .ok ds => ∀ J H1, Same H H1 → ItD K mg ww st os J H1 ds → Q J H1
  | .rse c => ∃ C, mg c = some (.ref C) ∧ ∀ H', Same H H' → E (.ref C) none H'
  | .bad => False
def tI (st : Bool) (E : XK) (ow : List Bool) (m : Ev → R (List D)) : TI := fun σ H Q => ∃ os ρ, Hd K mg ww ow os H σ ρ ∧ OutI K mg ww st E os H (m ρ) Q
def OutG (ow : List Bool) (os : List Addr) (H : Hp) (σ : St) (ρ : Ev) (r : R Ev) (Q : St → Hp → Prop) : Prop := match r with
  | .ok ρ' => ∀ σ', (∀ i, ow.getD i false = true → σ'[i]? = σ[i]? ∧ ρ'[i]? = ρ[i]?) → Hd K mg ww ow os H σ' ρ' → Q σ' H
  | _ => False
def tG (ow : List Bool) (g : D → Ev → R Ev) : TG := fun v σ H Q => ∃ os ρ d, Hd K mg ww ow os H σ ρ ∧ IsD K mg ww (hide os H) d v ∧ OutG K mg ww ow os H σ ρ (g d ρ) Q
end
section
variable {X : Cx} {K : PySem.W.Frag} {mg : Str → Option Value} {ww : World} {E : XK} {ow : List Bool} {os : List Addr} {H H' : Hp} {σ : St} {ρ : Ev} {m : Ev → R D} {ms : Ev → R (List D)} {tg l a b : Expr} {pos p : Pos} {st : Bool}
theorem Hd.set (h : Hd K mg ww ow os H σ ρ) {i : Nat} {d : D} {v : V} (hi : ow.getD i false = false) (hv : IsD K mg ww (hide os H) d v) : Hd K mg ww ow os H (σ.set i (some v)) (ρ.set i (some d)) where
  len := by rw [List.length_set, List.length_set]; exact h.len
  dom := h.dom
  imm := fun j e h1 h2 => by
    by_cases hj : i = j
    · subst hj
      have hlt : i < ρ.length := by
        have := (List.getElem?_eq_some_iff.mp h2).1
        simpa using this
      rw [List.getElem?_set_self hlt] at h2
      cases h2
      exact ⟨v, List.getElem?_set_self (by rw [h.len]; exact hlt), hv⟩
    · rw [List.getElem?_set_ne hj] at h2
      obtain ⟨u, z1, z2⟩ := h.imm j e h1 h2
      exact ⟨u, by rw [List.getElem?_set_ne hj]; exact z1, z2⟩
  own := fun j e h1 h2 => by
    have hj : i ≠ j := fun z => by
      subst z
      rw [hi] at h1
      cases h1
    rw [List.getElem?_set_ne hj] at h2
    obtain ⟨u, z1, z2⟩ := h.own j e h1 h2
    exact ⟨u, by rw [List.getElem?_set_ne hj]; exact z1, z2⟩
  apart := fun j k a e e' n h1 h2 h3 h4 h5 h6 => by
    have hj : i ≠ j := fun z => by
      subst z
      rw [hi] at h1
      cases h1
    have hk : i ≠ k := fun z => by
      subst z
      rw [hi] at h2
      cases h2
    rw [List.getElem?_set_ne hj] at h3 h5
    rw [List.getElem?_set_ne hk] at h4 h6
    exact h.apart j k a e e' n h1 h2 h3 h4 h5 h6
def Sub (ρ ρ' : Ev) : Prop := ρ.length = ρ'.length ∧ ∀ (i : Nat) (d : D), ρ[i]? = some (some d) → ρ'[i]? = some (some d)
theorem Hd.sub {ρ' : Ev} (h : Hd K mg ww ow os H σ ρ') (s : Sub ρ ρ') : Hd K mg ww ow os H σ ρ where
  len := h.len.trans s.1.symm
  dom := h.dom
  imm := fun i d h1 h2 => h.imm i d h1 (s.2 i d h2)
  own := fun i d h1 h2 => h.own i d h1 (s.2 i d h2)
  apart := fun i j a d e n h1 h2 h3 h4 => h.apart i j a d e n h1 h2 (s.2 i d h3) (s.2 j e h4)
def mIt (ms : Ev → R (List D)) (f : List D → R (List D)) : Ev → R (List D) := fun ρ => (ms ρ).bind f
def asItems : D → R (List D)
  | .lst l => .ok l
  | .tup l => .ok l
  | _ => .bad
def mItems (m : Ev → R D) : Ev → R (List D) := fun ρ => (m ρ).bind asItems
theorem itd_list {a : Addr} {xs : List V} {ds : List D} (h1 : SqL K (hide os H) a xs) (h2 : IsDs K mg ww (hide os H) ds xs) : ItD K mg ww st os (Itl K a) H ds := by
  intro i os' H' dm s1 _
  have q : SqL K H' a xs := hide_le.seq (s1.seq h1)
  refine ⟨fun d hd => ?_, fun hl => ⟨xs, q, by rw [h2.len]; exact hl⟩⟩
  obtain ⟨x, hx, hi⟩ := h2.atD hd
  refine ⟨⟨xs, x, q, hx⟩, fun y H2 ⟨e, z⟩ => ?_⟩
  subst e
  have e2 := z xs q
  rw [hx] at e2
  cases e2
  exact ⟨Same.refl _, IsD.same s1 d x hi⟩
theorem itd_tup {a : Addr} {xs : List V} {ds : List D} (h1 : SqT K (hide os H) a xs) (h2 : IsDs K mg ww (hide os H) ds xs) : ItD K mg ww st os (Itt K a) H ds := by
  intro i os' H' dm s1 _
  have q : SqT K H' a xs := hide_le.seqT (s1.seqT h1)
  refine ⟨fun d hd => ?_, fun hl => ⟨xs, q, by rw [h2.len]; exact hl⟩⟩
  obtain ⟨x, hx, hi⟩ := h2.atD hd
  refine ⟨⟨xs, x, q, hx⟩, fun y H2 ⟨e, z⟩ => ?_⟩
  subst e
  have e2 := z xs q
  rw [hx] at e2
  cases e2
  exact ⟨Same.refl _, IsD.same s1 d x hi⟩
theorem out_bindI {r : R D} {k : D → R (List D)} {md' : Md} {Q : It → Hp → Prop} (o : OutI K mg ww st E os H (r.bind k) Q) (hs : ∀ H1 r, Same H H1 → OutI K mg ww st E os H r Q → OutI K mg ww st E os H1 r Q) : Out K mg ww md' E os H r (fun v H1 => ∃ d, r = .ok d ∧ Same H H1 ∧ Rep K mg ww md' H os H1 d v ∧ OutI K mg ww st E os H1 (k d) Q) := by
  cases r with
  | ok d => exact fun v H1 s q => ⟨d, rfl, s, q, hs H1 _ s o⟩
  | rse c => exact o
  | bad => exact o
theorem OutI.same {r : R (List D)} {Q : It → Hp → Prop} (h : OutI K mg ww st E os H r Q) (e : Same H H') : OutI K mg ww st E os H' r Q := by
  cases r with
  | ok d => exact fun v H2 s q => h v H2 (e.trans s) q
  | rse c =>
    obtain ⟨C, h1, h2⟩ := h
    exact ⟨C, h1, fun H2 s => h2 H2 (e.trans s)⟩
  | bad => exact h
theorem PI.mono' {wi wi' : TI} (h : PI X tg l wi) (i : ∀ σ H Q, wi' σ H Q → wi σ H Q) : PI X tg l wi' := fun pins s σ H R I q => h pins s σ H R I (i σ H R q)
theorem i_seq (h : PE X l (tE K mg ww .d E ow m)) (hK : X.K = K := by rfl) : PI X tg l (tI K mg ww st E ow (mItems m)) := by
  refine PI.mono' (PI.or (pi_list h) (pi_tup h)) fun σ H Q ⟨os, ρ, hd, o⟩ => ?_
  subst hK
  have z := out_bindI (md' := .d) o fun H1 r s q => q.same s
  cases q : m ρ with
  | ok d =>
    rw [q] at z
    cases d with
    | lst l =>
      refine .inl ⟨os, ρ, hd, ?_⟩
      rw [q]
      intro v H1 s1 q1
      obtain ⟨d', e', _, _, z⟩ := z v H1 s1 q1
      cases e'
      have q2 : IsD X.K mg ww (hide os H1) (.lst l) v := q1
      rw [IsD] at q2
      obtain ⟨a, xs, rfl, h1, h2⟩ := q2
      exact ⟨a, rfl, ⟨xs, SqL.of (hide_le _ _ h1)⟩, z _ H1 (Same.refl _) (itd_list (SqL.of h1) h2)⟩
    | tup l =>
      refine .inr ⟨os, ρ, hd, ?_⟩
      rw [q]
      intro v H1 s1 q1
      obtain ⟨d', e', _, _, z⟩ := z v H1 s1 q1
      cases e'
      have q2 : IsD X.K mg ww (hide os H1) (.tup l) v := q1
      rw [IsD] at q2
      obtain ⟨a, xs, rfl, h1, h2⟩ := q2
      exact ⟨a, rfl, ⟨xs, hide_le.seqT h1⟩, z _ H1 (Same.refl _) (itd_tup h1 h2)⟩
    | _ =>
      refine .inl ⟨os, ρ, hd, ?_⟩
      rw [q]
      intro v H1 s1 q1
      obtain ⟨d', e', _, _, z⟩ := z v H1 s1 q1
      cases e'
      exact z.elim
  | rse c =>
    refine .inl ⟨os, ρ, hd, ?_⟩
    rw [q] at z ⊢
    exact z
  | bad =>
    rw [q] at z
    exact z.elim
def rangeD (lo : Int) (n : Nat) : List D := (List.range n).map fun k => .int (lo + (k : Nat))
theorem itd_range {lo : Int} {n : Nat} : ItD K mg ww st os (Itr lo n) H (rangeD lo n) := by
  intro i os' H' dm s1 _
  refine ⟨fun d hd => ?_, fun hl => ?_⟩
  · unfold rangeD at hd
    rw [List.getElem?_map] at hd
    cases q : (List.range n)[i]? with
    | none =>
      rw [q] at hd
      cases hd
    | some k =>
      rw [q] at hd
      have hi := (List.getElem?_eq_some_iff.mp q).1
      rw [List.length_range] at hi
      rw [List.getElem?_range hi] at q
      cases q
      cases hd
      refine ⟨hi, fun x H2 ⟨e1, e2⟩ => ?_⟩
      subst e1 e2
      exact ⟨Same.refl _, by rw [IsD]⟩
  · unfold rangeD at hl
    rw [List.length_map, List.length_range] at hl
    exact hl
def ran1 : List D → R (List D)
  | [.int j] => if j ≤ 100000 ∧ -100000 ≤ j then .ok (rangeD 0 j.toNat) else .bad
  | _ => .bad
theorem outA_bindI {r : R (List D)} {k : List D → R (List D)} {md' : Md} {Q : It → Hp → Prop} (o : OutI K mg ww st E os H (r.bind k) Q) : OutA K mg ww md' E os H r (fun vs H1 => ∃ ds, r = .ok ds ∧ Same H H1 ∧ Paired (Rep K mg ww md' H1 os H1) ds vs ∧ OutI K mg ww st E os H1 (k ds) Q) := by
  cases r with
  | ok d => exact fun v H1 s q => ⟨d, rfl, s, q, OutI.same o s⟩
  | rse c => exact o
  | bad => exact o
theorem i_ran1 (hm : X.mg "range" = none) (ha : PA X [a] (tA K mg ww .b E ow ms)) (hg : Gl X "range" := by rfl) (hs : starEach [a] X.env = [(false, eval a X.env)] := by rfl) : PI X tg (.Call (.Name "range" p) [a] [] pos) (tI K mg ww st E ow (mIt ms ran1)) :=
  PI.mono' (pi_range1 hg hm ha hs) fun σ H Q ⟨os, ρ, hd, o⟩ => by
    have z := outA_bindI (md' := .b) o
    refine ⟨os, ρ, hd, ?_⟩
    revert z
    cases ms ρ with
    | ok ds =>
      intro z vs H1 s1 q1
      obtain ⟨d', e', _, _, z⟩ := z vs H1 s1 q1
      cases e'
      unfold ran1 at z
      split at z
      · split at z
        · rename_i hj
          cases q1 with
          | cons r1 r2 =>
            cases r2
            refine ⟨_, by rw [r1.int], by omega, by omega, z _ H1 (Same.refl _) itd_range⟩
        · exact z.elim
      · exact z.elim
    | rse c => exact fun z => z
    | bad => exact fun z => z
theorem PG.mono' {g g' : TG} (h : PG X tg g) (i : ∀ v σ H Q, g' v σ H Q → g v σ H Q) : PG X tg g' := fun pins s σ H v u Q I r q => h pins s σ H v u Q I r (i v σ H Q q)
def gN (i : Nat) : D → Ev → R Ev := fun d ρ => .ok (ρ.set i (some d))
def gT2 (i j : Nat) : D → Ev → R Ev := fun d ρ => match d with
  | .tup [a, b] => .ok ((ρ.set i (some a)).set j (some b))
  | _ => .bad
theorem set_ow {i : Nat} {v : V} {d : D} (hi : ow.getD i false = false) : ∀ j, ow.getD j false = true → (σ.set i (some v))[j]? = σ[j]? ∧ (ρ.set i (some d))[j]? = ρ[j]? := fun j hj => by
  have n : i ≠ j := fun z => by
    subst z
    rw [hi] at hj
    cases hj
  exact ⟨List.getElem?_set_ne n, List.getElem?_set_ne n⟩
theorem g_name {i : Nat} {x : Str} (hN : X.N.Nodup) (ho : ow.getD i false = false := by rfl) (hi : X.N[i]? = some x := by rfl) (hx : Loc X.env.scope x := by first | exact Or.inl rfl | exact Or.inr rfl) (hf : X.fn x = true ∨ X.env.scope.names.lookup x = some .local := by first | exact .inl rfl | exact .inr rfl | assumption) : PG X (.Name x pos) (tG K mg ww ow (gN i)) :=
  PG.mono' (pg_name hN hi hx hf) fun v σ H Q ⟨os, ρ, d, hd, h1, o⟩ => o _ (set_ow ho) (hd.set ho h1)
theorem g_tup2 {i j n : Nat} {x y : Str} {p1 p2 : Pos} (hc : X.calm = true) (hN : X.N.Nodup) (ho1 : ow.getD i false = false := by rfl) (ho2 : ow.getD j false = false := by rfl) (hi : X.N[i]? = some x := by rfl) (hj : X.N[j]? = some y := by rfl)
    (hx : Loc X.env.scope x := by first | exact Or.inl rfl | exact Or.inr rfl) (hy : Loc X.env.scope y := by first | exact Or.inl rfl | exact Or.inr rfl)
    (hf1 : X.fn x = true ∨ X.env.scope.names.lookup x = some .local := by first | exact .inl rfl | exact .inr rfl | assumption) (hf2 : X.fn y = true ∨ X.env.scope.names.lookup y = some .local := by first | exact .inl rfl | exact .inr rfl | assumption) (hK : X.K = K := by rfl) :
    PG X (.Tuple [.Name x p1, .Name y p2] n pos) (tG K mg ww ow (gT2 i j)) :=
  PG.mono' (pg_tup (n := 2) hc (pgs_cons (pg_name hN hi hx hf1) (pgs_cons (pg_name hN hj hy hf2) pgs_nil))) fun v σ H Q ⟨os, ρ, d, hd, h1, o⟩ => by
    subst hK
    unfold gT2 at o
    split at o
    · rename_i a b
      rw [IsD] at h1
      obtain ⟨ad, xs, rfl, h2, h3⟩ := h1
      obtain ⟨u1, r1, rfl, i1, h3⟩ := h3.uncons
      obtain ⟨u2, r2, rfl, i2, h3⟩ := h3.uncons
      cases h3.nil'
      exact ⟨ad, _, rfl, hide_le.seqT h2, rfl, u1, _, rfl, u2, _, rfl, rfl, o _ (fun k hk => ⟨(set_ow (ρ := ρ) (d := b) ho2 k hk).1.trans (set_ow (ρ := ρ) (d := a) ho1 k hk).1, (set_ow (σ := σ) (v := u2) ho2 k hk).2.trans (set_ow (σ := σ) (v := u1) ho1 k hk).2⟩) ((hd.set ho1 i1).set ho2 i2)⟩
    · exact o.elim
end
def nr {α : Type} : R α → R α
  | .ok a => .ok a
  | _ => .bad
def lcD (g : D → Ev → R Ev) (t : Ev → R Bool) (e : Ev → R D) (ρ : Ev) : List D → R (List D)
  | [] => .ok []
  | d :: ds => (g d ρ).bind fun ρ1 => (nr (t ρ1)).bind fun k => if k = true then (nr (e ρ1)).bind fun x => (lcD g t e ρ ds).bind fun xs => .ok (x :: xs) else lcD g t e ρ ds
def pickD (ρ : Ev) : Option Nat → Option D
  | none => none
  | some j => (ρ[j]?).getD none
def pickO (ow : List Bool) : Option Nat → Bool
  | none => false
  | some j => ow.getD j false
def mLc (mi : Ev → R (List D)) (src : List (Option Nat)) (g : D → Ev → R Ev) (t : Ev → R Bool) (e : Ev → R D) : Ev → R D := fun ρ =>
  (mi ρ).bind fun items => if items.length ≤ 100000 then (nr (lcD g t e (src.map (pickD ρ)) items)).bind fun ds => .ok (.lst ds) else .bad
section
variable {K : PySem.W.Frag} {mg : Str → Option Value} {ww : World} {ow : List Bool} {os : List Addr} {H H' : Hp} {σ : St} {ρ : Ev}
theorem pick_some {src : List (Option Nat)} {i : Nat} {d : D} (h : (src.map (pickD ρ))[i]? = some (some d)) : ∃ j, src[i]? = some (some j) ∧ ρ[j]? = some (some d) := by
  rw [List.getElem?_map] at h
  cases q : src[i]? with
  | none =>
    rw [q] at h
    cases h
  | some o =>
    rw [q] at h
    cases o with
    | none => cases h
    | some j =>
      have h' : (ρ[j]?).getD none = some d := Option.some.inj h
      cases q2 : ρ[j]? with
      | none =>
        rw [q2] at h'
        cases h'
      | some o2 =>
        rw [q2] at h'
        have : o2 = some d := h'
        exact ⟨j, rfl, by rw [this] at q2; exact q2⟩
theorem pick_σ {src : List (Option Nat)} {i j : Nat} {v : V} (h : src[i]? = some (some j)) (h2 : σ[j]? = some (some v)) : (src.map (pick σ))[i]? = some (some v) := by
  rw [List.getElem?_map, h]
  show some ((σ[j]?).getD none) = _
  rw [h2]
  rfl
theorem pick_ow {src : List (Option Nat)} {i j : Nat} (h : src[i]? = some (some j)) : (src.map (pickO ow)).getD i false = ow.getD j false := by
  rw [List.getD_eq_getElem?_getD, List.getElem?_map, h]
  rfl
def SrcOk (src : List (Option Nat)) : Prop := ∀ (i j k : Nat), src[i]? = some (some k) → src[j]? = some (some k) → i = j
theorem Hd.pick (h : Hd K mg ww ow os H σ ρ) {src : List (Option Nat)} (hs : SrcOk src) : Hd K mg ww (src.map (pickO ow)) os H (src.map (pick σ)) (src.map (pickD ρ)) where
  len := by rw [List.length_map, List.length_map]
  dom := h.dom
  imm := fun i d h1 h2 => by
    obtain ⟨j, e1, e2⟩ := pick_some h2
    rw [pick_ow e1] at h1
    obtain ⟨v, z1, z2⟩ := h.imm j d h1 e2
    exact ⟨v, pick_σ e1 z1, z2⟩
  own := fun i d h1 h2 => by
    obtain ⟨j, e1, e2⟩ := pick_some h2
    rw [pick_ow e1] at h1
    obtain ⟨v, z1, z2⟩ := h.own j d h1 e2
    exact ⟨v, pick_σ e1 z1, z2⟩
  apart := fun i j a d e n h1 h2 h3 h4 h5 h6 => by
    obtain ⟨i', e1, e2⟩ := pick_some h3
    obtain ⟨j', e3, e4⟩ := pick_some h4
    rw [pick_ow e1] at h1
    rw [pick_ow e3] at h2
    obtain ⟨v, z1, _⟩ := h.own i' d h1 e2
    obtain ⟨u, z2, _⟩ := h.own j' e h2 e4
    rw [pick_σ e1 z1] at h5
    rw [pick_σ e3 z2] at h6
    cases h5
    cases h6
    exact h.apart i' j' a d e (fun z => n (hs i j i' e1 (by rw [z]; exact e3))) h1 h2 e2 e4 z1 z2
theorem hide_upd {L : Addr} {o : HO} (hL : L ∈ os) : hide os (upd H L o) = hide os H := by
  funext b
  unfold hide
  by_cases hb : b ∈ os
  · rw [if_pos hb, if_pos hb]
  · rw [if_neg hb, if_neg hb, upd_ne fun z => hb (by rw [z]; exact hL)]
theorem Hd.write (h : Hd K mg ww ow os H σ ρ) {L : Addr} {o : HO} (hL : L ∈ os) (hn : ∀ i d, ow.getD i false = true → ρ[i]? = some (some d) → σ[i]? ≠ some (some (.ref L))) : Hd K mg ww ow os (upd H L o) σ ρ where
  len := h.len
  dom := fun a ha => by
    by_cases hb : a = L
    · rw [hb, upd_same]
      simp
    · rw [upd_ne hb]
      exact h.dom a ha
  imm := fun i d h1 h2 => by
    rw [hide_upd hL]
    exact h.imm i d h1 h2
  own := fun i d h1 h2 => by
    obtain ⟨a, z1, z2, z3⟩ := h.own i d h1 h2
    refine ⟨a, z1, z2, ?_⟩
    rw [hide_upd hL, upd_ne fun z => hn i d h1 h2 (by rw [← z]; exact z1)]
    exact z3
  apart := h.apart
theorem Hd.more (h : Hd K mg ww ow os H σ ρ) (e : Same H H') {L : Addr} (h0 : H L = none) (h1 : H' L ≠ none) : Hd K mg ww ow (L :: os) H' σ ρ where
  len := h.len
  dom := fun a ha => by
    rcases List.mem_cons.mp ha with z | z
    · rw [z]
      exact h1
    · exact (h.same e).dom a z
  imm := fun i d h1 h2 => by
    obtain ⟨v, z1, z2⟩ := h.imm i d h1 h2
    exact ⟨v, z1, IsD.same (hide_new e h0) d v z2⟩
  own := fun i d h1 h2 => by
    obtain ⟨a, z1, z2, z3⟩ := h.own i d h1 h2
    refine ⟨a, z1, List.mem_cons_of_mem _ z2, ?_⟩
    obtain ⟨u, hu⟩ := z3.ex
    rw [e _ _ hu, ← hu]
    exact z3.same (hide_new e h0)
  apart := h.apart
end
section
variable {X : Cx} {K : PySem.W.Frag} {mg : Str → Option Value} {ww : World} {E : XK} {ow : List Bool} {scope : Scope} {N' : List Str} {src : List (Option Nat)} {elt tg iter : Expr} {ifs : List Expr} {pos : Pos} {mi : Ev → R (List D)} {g : D → Ev → R Ev} {t : Ev → R Bool} {e : Ev → R D}
theorem ptl_yes : PTL X [] (tT K mg ww E ow mYes) := fun pins s σ H Q I h => by
  obtain ⟨os, ρ, hd, o⟩ := h
  exact ptl_nil pins s σ H Q I (o H (Same.refl H))
def LcI (K : PySem.W.Frag) (mg : Str → Option Value) (ww : World) (ow : List Bool) (os : List Addr) (Lc : Addr) (H1 : Hp) (g : D → Ev → R Ev) (t : Ev → R Bool) (e : Ev → R D) (ρ0 : Ev) (items full : List D) (i : Nat) (σ' : St) (H' : Hp) : Prop :=
  ∃ (ys : List V) (ds rest : List D), H' Lc = some (.lst ys) ∧ IsDs K mg ww (hide (Lc :: os) H') ds ys ∧ Hd K mg ww ow (Lc :: os) H' σ' ρ0 ∧ Same H1 H' ∧ Same (hide os H1) (hide (Lc :: os) H') ∧ ds.length ≤ i ∧
    lcD g t e ρ0 (items.drop i) = .ok rest ∧ full = ds ++ rest ∧ ∀ j d, ow.getD j false = true → ρ0[j]? = some (some d) → σ'[j]? ≠ some (some (.ref Lc))
theorem lc_turn {os : List Addr} {Lc : Addr} {H1 : Hp} {ρ0 : Ev} {items full : List D} {i : Nat} {σ' : St} {H' H2 : Hp} {x : V} (hL : H1 Lc = none) (hlen : items.length ≤ 100000) (hsub : ∀ d ρ1, g d ρ0 = .ok ρ1 → Sub ρ0 ρ1) (hlt : i < items.length)
    (h : LcI K mg ww ow os Lc H1 g t e ρ0 items full i σ' H') (s2 : Same H' H2) (hx : IsD K mg ww (hide (Lc :: os) H2) items[i] x) :
    tG K mg ww ow g x σ' H2 (LcT (tT K mg ww E0 ow t) (tE K mg ww .d E0 ow e) Lc (LcI K mg ww ow os Lc H1 g t e ρ0 items full (i + 1))) := by
  obtain ⟨ys, ds, rest, hys, hds, hd', sm, sc, hl, hr, hf, hn⟩ := h
  rw [List.drop_eq_getElem_cons hlt, lcD] at hr
  refine ⟨Lc :: os, ρ0, items[i], hd'.same s2, hx, ?_⟩
  cases hg : g items[i] ρ0 with
  | rse c =>
    rw [hg] at hr
    cases hr
  | bad =>
    rw [hg] at hr
    cases hr
  | ok ρ1 =>
    rw [hg, R.ok_bind] at hr
    intro σ2 ks hd2
    have sub := hsub _ _ hg
    have hn2 : ∀ j d, ow.getD j false = true → ρ0[j]? = some (some d) → σ2[j]? ≠ some (some (.ref Lc)) := fun j d h1 h2 => by
      rw [(ks j h1).1]
      exact hn j d h1 h2
    cases htt : t ρ1 with
    | rse c =>
      rw [htt] at hr
      cases hr
    | bad =>
      rw [htt] at hr
      cases hr
    | ok k =>
      rw [htt] at hr
      replace hr : (if k = true then (nr (e ρ1)).bind fun x => (lcD g t e ρ0 (items.drop (i + 1))).bind fun xs => .ok (x :: xs) else lcD g t e ρ0 (items.drop (i + 1))) = .ok rest := hr
      refine ⟨Lc :: os, ρ1, hd2, ?_⟩
      rw [htt]
      intro H3 s3
      cases k with
      | false =>
        rw [if_neg Bool.false_ne_true] at hr ⊢
        have s4 := s2.trans s3
        exact ⟨ys, ds, rest, s4 _ _ hys, IsDs.same (hide_mono s4) _ _ hds, (hd2.same s3).sub sub, sm.trans s4, sc.trans (hide_mono s4), Nat.le_succ_of_le hl, hr, hf, hn2⟩
      | true =>
        rw [if_pos rfl] at hr ⊢
        cases hee : e ρ1 with
        | rse c =>
          rw [hee] at hr
          cases hr
        | bad =>
          rw [hee] at hr
          cases hr
        | ok y =>
          rw [hee] at hr
          replace hr : ((lcD g t e ρ0 (items.drop (i + 1))).bind fun xs => .ok (y :: xs)) = .ok rest := hr
          refine ⟨Lc :: os, ρ1, hd2.same s3, ?_⟩
          rw [hee]
          intro v H4 s4 q4
          have q4' : IsD K mg ww (hide (Lc :: os) H4) y v := q4
          have s5 := (s2.trans s3).trans s4
          refine ⟨ys, s5 _ _ hys, ?_, ?_⟩
          · rw [hds.len, sizeLine_eq]
            omega
          · cases hrr : lcD g t e ρ0 (items.drop (i + 1)) with
            | rse c =>
              rw [hrr] at hr
              cases hr
            | bad =>
              rw [hrr] at hr
              cases hr
            | ok rs =>
              rw [hrr] at hr
              have e1 : y :: rs = rest := by
                have : R.ok (y :: rs) = R.ok rest := hr
                exact R.ok.inj this
              have mem : Lc ∈ Lc :: os := List.mem_cons_self
              refine ⟨ys ++ [v], ds ++ [y], rs, upd_same, ?_, ?_, ?_, ?_, ?_, hrr, ?_, hn2⟩
              · rw [hide_upd mem]
                exact (IsDs.same (hide_mono s5) _ _ hds).append (IsDs.cons q4' IsDs.nil)
              · exact ((hd2.same (s3.trans s4)).sub sub).write mem hn2
              · intro b o z
                rw [upd_ne (ne_of_none z hL)]
                exact s5 _ _ (sm _ _ z)
              · rw [hide_upd mem]
                exact sc.trans (hide_mono s5)
              · rw [List.length_append]
                exact Nat.succ_le_succ hl
              · rw [hf, List.append_assoc, ← e1]
                rfl
theorem lc_go (hsub : ∀ ρ d ρ1, g d (src.map (pickD ρ)) = .ok ρ1 → Sub (src.map (pickD ρ)) ρ1) (hsrc : SrcOk src) {σ : St} {H : Hp} {Q : VK} (h : tE K mg ww .f E ow (mLc mi src g t e) σ H Q) :
    tLc (tI K mg ww true E ow mi) src (tG K mg ww (src.map (pickO ow)) g) (tT K mg ww E0 (src.map (pickO ow)) t) (tE K mg ww .d E0 (src.map (pickO ow)) e) σ H Q := by
  obtain ⟨os, ρ, hd, o⟩ := h
  refine ⟨os, ρ, hd, ?_⟩
  unfold mLc at o
  revert o
  cases mi ρ with
  | rse c => exact fun o => o
  | bad => exact fun o => o
  | ok items =>
    rw [R.ok_bind]
    intro o
    split at o
    case isFalse => exact o.elim
    rename_i hlen
    intro J H1 s1 it Lc hL
    cases hfull : lcD g t e (src.map (pickD ρ)) items with
    | rse c =>
      rw [hfull] at o
      exact o.elim
    | bad =>
      rw [hfull] at o
      exact o.elim
    | ok full =>
      rw [hfull] at o
      have o' : ∀ v H', Same H H' → Rep K mg ww .f H os H' (.lst full) v → Q v H' := o
      have hd1 := (hd.same s1).pick hsrc
      have hL0 : H Lc = none := s1.free hL
      refine ⟨fun i m σ' H' => m = items.length - i ∧ i ≤ items.length ∧ LcI K mg ww (src.map (pickO ow)) os Lc H1 g t e (src.map (pickD ρ)) items full i σ' H',
        ⟨items.length, by simp, Nat.zero_le _, [], [], full, upd_same, IsDs.nil, hd1.more (Wv.same_new hL) hL (by rw [upd_same]; simp), Wv.same_new hL, hide_new (Wv.same_new hL) hL, Nat.le_refl _, by rw [List.drop_zero]; exact hfull, rfl, fun j d h1 h2 z => ?_⟩, ?_⟩
      · obtain ⟨a, z1, z2, _⟩ := hd1.own j d h1 h2
        rw [z1] at z
        cases z
        exact hd1.dom _ z2 hL
      · rintro i m σ' H' ⟨rfl, hi, W⟩
        obtain ⟨ys, ds, rest, hys, hds, hd', sm, sc, hl, hr, hf, hn⟩ := id W
        obtain ⟨it1, it2⟩ := it i (Lc :: os) H' hd'.dom sc fun _ => sm
        by_cases hlt : i < items.length
        · obtain ⟨go, yl⟩ := it1 _ (List.getElem?_eq_getElem hlt)
          refine .inr ⟨go, LcI K mg ww (src.map (pickO ow)) os Lc H1 g t e (src.map (pickD ρ)) items full (i + 1), fun σ2 H2 w => ⟨items.length - (i + 1), by omega, rfl, hlt, w⟩, fun x H2 y => ?_⟩
          obtain ⟨s2, hx⟩ := yl x H2 y
          exact lc_turn hL hlen (fun d ρ1 => hsub ρ d ρ1) hlt W s2 hx
        · have e1 : i = items.length := by omega
          subst e1
          refine .inl ⟨it2 (Nat.le_refl _), o' _ _ (s1.trans sm) ⟨Lc, rfl, hL0, ?_⟩⟩
          rw [List.drop_length, lcD] at hr
          cases hr
          rw [List.append_nil] at hf
          subst hf
          exact ⟨ys, hys, hds⟩
theorem e_lc (L : LcOk X scope N' src) (hi : PI X tg iter (tI K mg ww true E ow mi)) (hg : ∀ C s2 H1 fp, PG (compCx X scope C N' s2 H1 fp) tg (tG K mg ww (src.map (pickO ow)) g)) (ht : ∀ C s2 H1 fp, PTL (compCx X scope C N' s2 H1 fp) ifs (tT K mg ww E0 (src.map (pickO ow)) t))
    (he : ∀ C s2 H1 fp, PE (compCx X scope C N' s2 H1 fp) elt (tE K mg ww .d E0 (src.map (pickO ow)) e)) (hsub : ∀ ρ d ρ1, g d (src.map (pickD ρ)) = .ok ρ1 → Sub (src.map (pickD ρ)) ρ1) (hsrc : SrcOk src) (hc : X.calm = true := by rfl)
    (hs : ∀ x, foldedSetIterable iter X.env x = pure x := by intro _; rfl) : PE X (.ListComp elt [⟨tg, iter, ifs, 0⟩] scope pos) (tE K mg ww .f E ow (mLc mi src g t e)) := (pe_lc hc L hi hg ht he hs).mono fun _ _ _ h => lc_go hsub hsrc h
theorem sub_N {i : Nat} (h : src[i]? = some none := by rfl) : ∀ ρ d ρ1, gN i d (src.map (pickD ρ)) = .ok ρ1 → Sub (src.map (pickD ρ)) ρ1 := fun ρ d ρ1 e1 => by
  have e2 : (src.map (pickD ρ)).set i (some d) = ρ1 := R.ok.inj e1
  subst e2
  refine ⟨by rw [List.length_set], fun j d' hj => ?_⟩
  have hij : i ≠ j := fun z => by
    subst z
    rw [List.getElem?_map, h] at hj
    cases hj
  rw [List.getElem?_set_ne hij]
  exact hj
theorem sub_T2 {i j : Nat} (hi : src[i]? = some none := by rfl) (hj : src[j]? = some none := by rfl) : ∀ ρ d ρ1, gT2 i j d (src.map (pickD ρ)) = .ok ρ1 → Sub (src.map (pickD ρ)) ρ1 := fun ρ d ρ1 e1 => by
  unfold gT2 at e1
  split at e1
  · rename_i a b
    have e2 : ((src.map (pickD ρ)).set i (some a)).set j (some b) = ρ1 := R.ok.inj e1
    subst e2
    refine ⟨by rw [List.length_set, List.length_set], fun k d' hk => ?_⟩
    have hik : i ≠ k := fun z => by
      subst z
      rw [List.getElem?_map, hi] at hk
      cases hk
    have hjk : j ≠ k := fun z => by
      subst z
      rw [List.getElem?_map, hj] at hk
      cases hk
    rw [List.getElem?_set_ne hjk, List.getElem?_set_ne hik]
    exact hk
  · cases e1
def srcCheck (src : List (Option Nat)) : Bool := (List.range src.length).all fun i => (List.range src.length).all fun j => i == j || src[i]? == some none || !(src[i]? == src[j]?)
theorem src_ok {src : List (Option Nat)} (h : srcCheck src = true := by rfl) : SrcOk src := fun i j k h1 h2 => by
  have l1 := (List.getElem?_eq_some_iff.mp h1).1
  have l2 := (List.getElem?_eq_some_iff.mp h2).1
  unfold srcCheck at h
  have z := List.all_eq_true.mp (List.all_eq_true.mp h i (List.mem_range.mpr l1)) j (List.mem_range.mpr l2)
  rw [h1, h2] at z
  simp at z
  exact z
end
end DL
namespace L2
open PySem PySem.Spec PyProof.Rows
def itR (b : Bool) (l : Addr) : Obj := match b with
  | true => { cls := .type "tuple_iterator", data := .fields #[.ref l, .int 0 0] }
  | false => { cls := .type "list_iterator", data := .fields #[.ref l, .int 0 0] }
section
variable {prog : Program} {w : World} {A : Around} {E : Value → Shared → Prop} {s : Shared}
theorem itR_at {b : Bool} {h : Heap} {it l : Addr} (e : h.get? it = some (itR b l)) : SIt b h it l 0 := by
  cases b with
  | true => exact ⟨_, e, rfl, rfl⟩
  | false => exact ⟨_, e, rfl, rfl⟩
theorem itR_ok {b : Bool} {l : Addr} : (itR b l).isFreed = false := by cases b <;> rfl
end
def SqB (K : PySem.W.Frag) (b : Bool) (H : Hp) (a : Addr) (xs : List V) : Prop := match b with
  | true => SqT K H a xs
  | false => SqL K H a xs
theorem Inv.sqB {X : Cx} {pins : List (Addr × Obj)} {σ : St} {H : Hp} {s : Shared} {b : Bool} {a : Addr} {xs : List V} (I : Inv X pins σ H s) (h : SqB X.K b H a xs) : ∃ its : List Value, Vals xs its ∧ SSq b s.heap a its.toArray := by
  cases b with
  | true =>
    obtain ⟨its, r, p, _⟩ := I.tuple h
    exact ⟨its, r, p⟩
  | false =>
    obtain ⟨its, r, p, _⟩ := I.list h
    exact ⟨its, r, p.isList⟩
theorem Inv.sqB_inj {X : Cx} {pins : List (Addr × Obj)} {σ : St} {H : Hp} {s : Shared} {b : Bool} {a : Addr} {xs ys : List V} (I : Inv X pins σ H s) (h : SqB X.K b H a xs) (k : SqB X.K b H a ys) : xs = ys := by
  cases b with
  | true => exact I.tuple_inj h k
  | false => exact I.list_inj h k
structure ZipSt (b1 b2 : Bool) (z TI TO i1 i2 l1 l2 : Addr) (i : Nat) (h : Heap) : Prop where
  hz : IsZip h z TI TO .none
  ti : IsPair h TI (.ref i1) (.ref i2)
  to : ∃ a c, IsPair h TO a c
  h1 : SIt b1 h i1 l1 i
  h2 : SIt b2 h i2 l2 i
structure ZipOwn (z TI TO i1 i2 : Addr) : Prop where
  TIz : TI ≠ z
  TOz : TO ≠ z
  i1z : i1 ≠ z
  i2z : i2 ≠ z
  TITO : TI ≠ TO
  TIi1 : TI ≠ i1
  TIi2 : TI ≠ i2
  TOi1 : TO ≠ i1
  TOi2 : TO ≠ i2
  i12 : i1 ≠ i2
theorem SSq.ne {b : Bool} {h : Heap} {l : Addr} {xs : Array Value} (x : SSq b h l xs) {c : Addr} (hc : ∀ o, h.get? c = some o → o.cls ≠ .type "list" ∧ o.cls ≠ .type "tuple") : l ≠ c := fun z => by
  subst z
  cases b with
  | true =>
    obtain ⟨o, e, q, _⟩ := x
    exact (hc o e).2 q
  | false =>
    obtain ⟨o, e, q, _⟩ := x
    exact (hc o e).1 q
section
variable {X : Cx} {es : List Expr} {x1 : Nat} {tp : Pos} {a b : Expr} {p pos : Pos}
end
end L2
namespace DL
open PySem PySem.Spec L2
section
variable {X : Cx} {K : PySem.W.Frag} {mg : Str → Option Value} {ww : World} {E : XK} {ow : List Bool} {os : List Addr} {H : Hp} {ms : Ev → R (List D)} {es : List Expr} {x1 : Nat} {tp : Pos} {a b : Expr} {p pos : Pos} {st : Bool}
theorem items_sq {d : D} {v : V} {ds : List D} (h : asItems d = .ok ds) (hv : IsD K mg ww (hide os H) d v) : ∃ b a xs, v = .ref a ∧ SqB K b (hide os H) a xs ∧ IsDs K mg ww (hide os H) ds xs := by
  cases d with
  | lst l =>
    cases h
    rw [IsD] at hv
    obtain ⟨a, xs, h1, h2, h3⟩ := hv
    exact ⟨false, a, xs, h1, SqL.of h2, h3⟩
  | tup l =>
    cases h
    rw [IsD] at hv
    obtain ⟨a, xs, h1, h2, h3⟩ := hv
    exact ⟨true, a, xs, h1, h2, h3⟩
  | _ => cases h
theorem Same.sqB {H H' : Hp} {b : Bool} {a : Addr} {xs : List V} (e : Same H H') (h : SqB K b H a xs) : SqB K b H' a xs := by
  cases b with
  | true => exact e.seqT h
  | false => exact e.seq h
end
end DL
namespace L2
open PySem PySem.Spec PyProof.Rows
section
variable {prog : Program} {w : World} {A : Around} {E : Value → Shared → Prop} {s : Shared}
theorem enumS_item {b : Bool} {e it l : Addr} {i : Nat} {xs : Array Value} {x old : Value} {Q : Option Value → Shared → Prop} (he : IsEnum s.heap e it i old) (hi : SIt b s.heap it l i) (hl : SSq b s.heap l xs) (hx : xs[i]? = some x) (hne : e ≠ it)
    (hQ : ∀ h', IsEnumOut h' e it ((i : Int) + 1) x s.heap.objs.size → SIt b h' it l (i + 1) → h'.get? s.heap.objs.size = some { cls := .type "tuple", data := .seq #[.int i s.toks, x] } → h'.objs.size = s.heap.objs.size + 1 →
      (∀ c o, c ≠ e → c ≠ it → s.heap.get? c = some o → h'.get? c = some o) → Q (some (.ref s.heap.objs.size)) { s with heap := h', toks := s.toks + 1 }) : wpAny (model prog w) A (pyNext (.ref e)) Q E s := by
  have hT : s.TypeIs (.ref e) "enumerate" := ⟨_, he, rfl⟩
  obtain ⟨hp, g, d, tk, os⟩ := s
  unfold pyNext
  refine wpAny_bind (wpAny_attempt (wpAny_callSpecial?_slot (name := Str.ofString "__next__") hT F.slot_enumerate_next (wpAny_call_entry F.slot_enumerate_next hT F.entry_enumerate_next ?_ (F.args_enumerate_next_1 _))))
  refine (show wpAny _ _ (field (.ref e) 2 >>= _) _ _ _ from wpAny_bind (wpAny_field he rfl (x := .ref it) rfl (wpAny_bind (nextS_item hi hl hx fun g1 j1 s1 => ?_))))
  replace s1 : Heap.SameBut it hp g1 := s1
  have e1 : IsEnum g1 e it i old := (s1.2 e hne).trans he
  refine (show wpAny _ _ (field (.ref e) 3 >>= _) _ _ ⟨g1, g, d, tk, os⟩ from wpAny_bind (wpAny_field e1 rfl (x := rawInt i) rfl ?_))
  refine (show wpAny _ _ (field (.ref e) 4 >>= _) _ _ ⟨g1, g, d, tk, os⟩ from wpAny_bind (wpAny_field e1 rfl (x := .none) rfl ?_))
  refine (show wpAny _ _ (mkInt i >>= _) _ _ ⟨g1, g, d, tk, os⟩ from wpAny_bind (wpAny_mkInt ?_))
  refine (show wpAny _ _ (setField (.ref e) 3 (rawInt ((i : Int) + 1)) >>= _) _ _ ⟨g1, g, d, tk + 1, os⟩ from wpAny_bind (wpAny_setField_rec e1 (by simp) fun g2 e2 s2 => ?_))
  replace s2 : Heap.SameBut e g1 g2 := s2
  replace e2 : IsEnum g2 e it ((i : Int) + 1) old := e2
  refine (show wpAny _ _ (setField (.ref e) 4 .none >>= _) _ _ ⟨g2, g, d, tk + 1, os⟩ from wpAny_bind (wpAny_setField_rec e2 (by simp) fun g3 e3 s3 => ?_))
  replace s3 : Heap.SameBut e g2 g3 := s3
  replace e3 : IsEnum g3 e it ((i : Int) + 1) old := e3
  refine (show wpAny _ _ (newTuple [.int i tk, x] >>= _) _ _ ⟨g3, g, d, tk + 1, os⟩ from wpAny_bind (wpAny_newTuple ?_))
  have e4 : IsEnum (g3.push { cls := .type "tuple", data := .seq #[.int i tk, x] }) e it ((i : Int) + 1) old := Heap.get?_push_of_some _ e3
  have sz : g3.objs.size = hp.objs.size := by rw [s3.1, s2.1, s1.1]
  have el : @LT.lt Nat _ e hp.objs.size := Heap.lt_size he
  have k3 : ∀ c o, c ≠ e → c ≠ it → hp.get? c = some o → g3.get? c = some o := fun c o c1 c2 q => s3.extBut _ _ c1 (s2.extBut _ _ c1 (s1.extBut _ _ c2 q))
  have j3 : SIt b g3 it l (i + 1) := j1.mv fun o q => s3.extBut _ _ hne.symm (s2.extBut _ _ hne.symm q)
  have t4 : (g3.push { cls := .type "tuple", data := .seq #[.int i tk, x] }).get? g3.objs.size = some { cls := .type "tuple", data := .seq #[.int i tk, x] } := Heap.get?_push_size _ rfl
  have z4 : (g3.push { cls := .type "tuple", data := .seq #[.int i tk, x] }).objs.size = g3.objs.size + 1 := Heap.size_push ..
  have k4 : ∀ c o, g3.get? c = some o → (g3.push { cls := .type "tuple", data := .seq #[.int i tk, x] }).get? c = some o := fun c o q => Heap.get?_push_of_some _ q
  generalize g3.push { cls := .type "tuple", data := .seq #[.int i tk, x] } = g4 at e4 t4 z4 k4 ⊢
  rw [sz] at t4 z4 ⊢
  refine (show wpAny _ _ (Builtin.SmallTypes.ownedTupleIsFree (.ref e) >>= _) _ _ ⟨g4, g, d, tk + 1, os⟩ from wpAny_bind ?_)
  unfold Builtin.SmallTypes.ownedTupleIsFree
  refine wpAny_bind (wpAny_field e4 rfl (x := .none) rfl (wpAny_pure ?_))
  simp only [if_true]
  refine wpAny_bind (wpAny_rule (wpAny_bind (wpAny_field e4 rfl (x := old) rfl (wpAny_bind (wpAny_setField_rec e4 (by simp) fun g5 e5 s5 => ?_)))))
  replace s5 : Heap.SameBut e g4 g5 := s5
  replace e5 : IsEnum g5 e it ((i : Int) + 1) x := e5
  refine (show wpAny _ _ (Builtin.SmallTypes.ownedTupleHandOut (.ref e) (.ref hp.objs.size) >>= _) _ _ ⟨g5, g, d, tk + 1, os⟩ from wpAny_bind ?_)
  unfold Builtin.SmallTypes.ownedTupleHandOut
  refine wpAny_bind (wpAny_setField_rec e5 (by simp) fun g6 e6 s6 => ?_)
  replace s6 : Heap.SameBut e g5 g6 := s6
  replace e6 : IsEnumOut g6 e it ((i : Int) + 1) x hp.objs.size := e6
  refine wpAny_setField_rec e6 (by simp) fun g7 e7 s7 => ?_
  replace s7 : Heap.SameBut e g6 g7 := s7
  replace e7 : IsEnumOut g7 e it ((i : Int) + 1) x hp.objs.size := e7
  have up : ∀ c o, c ≠ e → g4.get? c = some o → g7.get? c = some o := fun c o c1 q => s7.extBut _ _ c1 (s6.extBut _ _ c1 (s5.extBut _ _ c1 q))
  refine wpAny_bind (wpAny_letGo (wpAny_pure ⟨_, rfl, wpAny_pure (hQ g7 e7 ?_ ?_ ?_ ?_)⟩))
  · exact j3.mv fun o q => up _ _ hne.symm (k4 _ _ q)
  · exact up _ _ (Nat.ne_of_gt el) t4
  · rw [s7.1, s6.1, s5.1]
    exact z4
  · exact fun c o c1 c2 q => up c o c1 (k4 c o (k3 c o c1 c2 q))
theorem enumS_end {b : Bool} {e it l : Addr} {i : Nat} {xs : Array Value} {old : Value} {Q : Option Value → Shared → Prop} (hh : A.handled = none) (he : IsEnum s.heap e it i old) (hi : SIt b s.heap it l i) (hl : SSq b s.heap l xs) (hx : xs[i]? = none)
    (hQ : ∀ h', Heap.ExtBut it s.heap h' → Q none { s with heap := h' }) : wpAny (model prog w) A (pyNext (.ref e)) Q E s := by
  have hT : s.TypeIs (.ref e) "enumerate" := ⟨_, he, rfl⟩
  unfold pyNext
  refine wpAny_bind (wpAny_attempt (wpAny_callSpecial?_slot (name := Str.ofString "__next__") hT F.slot_enumerate_next (wpAny_call_entry F.slot_enumerate_next hT F.entry_enumerate_next ?_ (F.args_enumerate_next_1 _))))
  refine (show wpAny _ _ (field (.ref e) 2 >>= _) _ _ _ from wpAny_bind (wpAny_field he rfl (x := .ref it) rfl (wpAny_bind (nextS_end hh hi hl hx fun g1 x k1 ⟨o, ho, hc⟩ => ?_))))
  exact wpAny_bind (wpAny_isInstance (T := "StopIteration") (b := true) ⟨o, ho, hc⟩ isSubtype_stop (wpAny_pure (hQ _ k1)))
end
def eS2 (b : Bool) (h : Heap) (l : Addr) : Heap := (h.push (itR b l)).push { cls := .type "enumerate", data := .fields #[.none, .bool false, .ref h.objs.size, rawInt 0, .none, .none] }
theorem meets_enumS (l : Addr) (xs : Array Value) (n : Nat) (dct : Option Addr) (sl : Array (Option Value)) :
    Meets (Builtin.«enumerate.__new__» ⟨[.type "enumerate", .ref l], []⟩) (fun _ R s => s.heap.get? l = some { cls := .type "tuple", dict := dct, data := .seq xs n, slots := sl } ∧
      R (.ok (.ret (.ref (s.heap.push (itR true l)).objs.size))) { s with heap := eS2 true s.heap l }) :=
  .of_wp fun prog w A R s h => by
    obtain ⟨hp, g, d, tk, os⟩ := s
    obtain ⟨hl, h⟩ := h
    have hsub := sub_enumerate
    have hL : Heap.IsTuple (Shared.heap ⟨hp, g, d, tk, os⟩) l xs := ⟨_, hl, rfl, n, rfl⟩
    wp_walk using AutoSeq1.wpAny_loadPart' hl
    refine wpAny_stack_any fun st => wpAny_pure ?_
    split
    · rename_i c _ _ _ _ _
      cases (c == Value.type "enumerate")
      · wp_walk using AutoSeq1.wpAny_loadPart' hl, wpAny_pyIter_tuple hL
        exact ⟨_, rfl, h⟩
      · wp_walk using AutoSeq1.wpAny_loadPart' hl, wpAny_pyIter_tuple hL
        exact ⟨_, rfl, h⟩
    · wp_walk using AutoSeq1.wpAny_loadPart' hl, wpAny_pyIter_tuple hL
      exact ⟨_, rfl, h⟩
section
variable {prog : Program} {w : World} {A : Around} {E : Value → Shared → Prop} {s : Shared}
theorem call_enumS {b : Bool} {l : Addr} {xs : Array Value} {Q : Value → Shared → Prop} (hl : SSq b s.heap l xs)
    (h : ∀ h', IsEnum h' (s.heap.objs.size + 1) s.heap.objs.size 0 .none → SIt b h' s.heap.objs.size l 0 → (∀ c o, s.heap.get? c = some o → h'.get? c = some o) → Q (.ref (s.heap.objs.size + 1)) { s with heap := h' }) :
    wpAny (model prog w) A (call (.type "enumerate") [.ref l]) Q E s := by
  cases b with
  | false => exact call_enumerate_list (show s.heap.IsList l xs from hl) fun h' a1 a2 _ a4 => h h' a1 a2 a4
  | true =>
    obtain ⟨⟨c, dct, dt, sl⟩, ho, hc, n, hd⟩ := (show s.heap.IsTuple l xs from hl)
    replace hc : c = .type "tuple" := hc
    replace hd : dt = .seq xs n := hd
    subst hc hd
    refine callType_new F.called_enumerate (by decide) (F.typeCall_enumerate_1 _) (F.newCall_enumerate_1 _) (fun obj => F.args_object_init_2 obj _) F.entry_enumerate_new (meets_enumS l xs n dct sl) ⟨ho, ?_⟩
    have z1 : (s.heap.push (itR true l)).objs.size = s.heap.objs.size + 1 := Heap.size_push ..
    have g2 : (eS2 true s.heap l).get? (s.heap.push (itR true l)).objs.size = some _ := Heap.get?_push_size _ rfl
    have g1 : (eS2 true s.heap l).get? s.heap.objs.size = some (itR true l) := Heap.get?_push_of_some _ (Heap.get?_push_size _ itR_ok)
    show _ ∧ _
    rw [z1] at g2 ⊢
    exact ⟨⟨_, g2, rfl⟩, h _ g2 (itR_at g1) fun c o x => Heap.get?_push_of_some _ (Heap.get?_push_of_some _ x)⟩
end
def Ite (K : PySem.W.Frag) (b : Bool) (l : Addr) : It :=
  ⟨fun i H => ∃ xs x, SqB K b H l xs ∧ xs[i]? = some x,
   fun i H v H' => ∃ p x, v = .ref p ∧ H p = none ∧ H' = upd H p (.tup [.int (i : Nat), x]) ∧ ∀ xs, SqB K b H l xs → xs[i]? = some x,
   fun i H => ∃ xs, SqB K b H l xs ∧ xs.length ≤ i⟩
structure EnSt (b : Bool) (e it l : Addr) (i : Nat) (h : Heap) : Prop where
  he : ∃ old, IsEnum h e it i old
  hi : SIt b h it l i
theorem turn_enum {P : Program} {w : World} {K : PySem.W.Frag} {es : List Expr} {x1 : Nat} {pos : Pos} {b : Bool} {e it l : Addr} (hne : e ≠ it) :
    Turn P w K (.Tuple es x1 pos) (Ite K b l) [e, it] e (EnSt b e it l) where
  mem := by simp
  obj := fun i h st c hc => by
    simp only [List.mem_cons, List.not_mem_nil, or_false] at hc
    obtain ⟨old, he⟩ := st.he
    rcases hc with rfl | rfl
    · exact ⟨_, he, fun v q => by cases (show Data.fields _ = Data.cell v from q)⟩
    · exact st.hi.rec
  keep := fun i h h' st k => by
    obtain ⟨old, he⟩ := st.he
    exact ⟨⟨old, k e (by simp) _ he⟩, st.hi.mv fun o q => k it (by simp) o q⟩
  item := by
    intro X hP hw hK hc i pins s σ H E I hf st hg
    subst hP hw hK
    obtain ⟨xs, x, hq, hx⟩ := hg
    obtain ⟨its, r, p⟩ := I.sqB hq
    obtain ⟨u, hu, ru⟩ := r.get hx
    obtain ⟨old, he⟩ := st.he
    refine enumS_item he st.hi p (by simpa using hu) hne fun h' y1 y2 y3 y4 y5 => ?_
    refine ⟨_, rfl, ?_⟩
    have zl : @LT.lt Nat _ e s.heap.objs.size := Heap.lt_size he
    refine wpAny_letOwnedTupleGo_enum y1 fun h2 z2 s2 => ?_
    have ext : ∀ c o, c ∉ [e, it] → s.heap.get? c = some o → h2.get? c = some o := fun c o nc q => by
      simp only [List.mem_cons, List.not_mem_nil, or_false, not_or] at nc
      exact s2.extBut _ _ nc.1 (y5 c o nc.1 nc.2 q)
    have pT : h2.get? s.heap.objs.size = some { cls := .type "tuple", data := .seq #[.int i s.toks, u] } := s2.extBut _ _ (Nat.ne_of_gt zl) y3
    have fr : H s.heap.objs.size = none := I.fresh
    have I2 : Inv X pins σ (upd H s.heap.objs.size (.tup [.int (i : Nat), x])) { s with heap := h2, toks := s.toks + 1 } := I.turnedT (t' := s.toks + 1) (ch := [e, it]) ext hf (Nat.le_refl _)
      ⟨(by show 2 ≤ sizeLine; decide), [.int i s.toks, u], .cons ⟨_, rfl⟩ (.cons ru .nil), ⟨_, pT, rfl, _, rfl⟩⟩
    refine ⟨.ref s.heap.objs.size, upd H s.heap.objs.size (.tup [.int (i : Nat), x]), I2, rfl, ⟨_, x, rfl, fr, rfl, fun xs' hq' => by rw [I.sqB_inj hq' hq]; exact hx⟩, ?_, fun c hc => ?_⟩
    · exact ⟨⟨_, z2⟩, y2.mv fun o q => s2.extBut _ _ hne.symm q⟩
    · have lt : @LT.lt Nat _ c s.heap.objs.size := by
        simp only [List.mem_cons, List.not_mem_nil, or_false] at hc
        rcases hc with rfl | rfl
        · exact zl
        · obtain ⟨o, q, _⟩ := st.hi.rec; exact Heap.lt_size q
      rw [upd_ne (show @Ne Nat _ _ by omega)]
      exact (hf c hc).1
  done := by
    intro X hP hw hK hc i pins s σ H E I hf st hg
    subst hP hw hK
    obtain ⟨xs, hq, hl⟩ := hg
    obtain ⟨its, r, p⟩ := I.sqB hq
    have hl1 := r.length
    obtain ⟨old, he⟩ := st.he
    refine enumS_end (I.ok.hd hc) he st.hi p (by simp; omega) fun h' y => ⟨rfl, I.turnedL (t' := s.toks) (ch := [e, it]) (fun c o nc q => ?_) hf⟩
    simp only [List.mem_cons, List.not_mem_nil, or_false, not_or] at nc
    exact y c o nc.2 q
  self := fun _ _ _ _ _ st h => by
    obtain ⟨old, he⟩ := st.he
    exact wpAny_pyIter_enum he h
section
variable {X : Cx} {es : List Expr} {x1 : Nat} {tp : Pos} {a : Expr} {p pos : Pos}
theorem boot_enum : bootBuiltins "enumerate" = some (.type "enumerate") := by decide +kernel
def iEnum (K : PySem.W.Frag) (ta : TA) : TI := fun σ H R => ta σ H fun vs H1 => ∃ b l xs, vs = [.ref l] ∧ SqB K b H1 l xs ∧ R (Ite K b l) H1
theorem pi_enum {ta : TA} (hg : Gl X "enumerate") (hm : X.mg "enumerate" = none) (ha : PA X [a] ta) (hs : starEach [a] X.env = [(false, eval a X.env)] := by rfl) :
    PI X (.Tuple es x1 tp) (.Call (.Name "enumerate" p) [a] [] pos) (iEnum X.K ta) := by
  intro pins s σ H R I h
  refine Call_ (ld_blt I hg hm boot_enum (PyProof.Rows.callWith_type1 (thn (ha pos pins s σ H _ I h) fun us s1 ⟨vs, H1, I1, r1, q1⟩ => ?_) (by rw [hs]; rfl) (by rfl)))
  obtain ⟨b, l, xs, e, hq, q⟩ := q1
  subst e
  obtain ⟨u1, rfl, e1⟩ := vals1 r1
  cases (show u1 = Value.ref l from e1)
  obtain ⟨its, _, p1⟩ := I1.sqB hq
  refine call_enumS p1 fun h' z1 z2 k => ?_
  have hne : s1.heap.objs.size + 1 ≠ s1.heap.objs.size := by omega
  have I2 : Inv X pins σ H1 { s1 with heap := h' } := I1.kept (t' := s1.toks) k
  refine wpAny_pyIter_enum z1 ⟨_, _, _, _, H1, rfl, I2, turn_enum hne, ⟨⟨_, z1⟩, z2⟩, fun c hc => ?_, q⟩
  have hc' : @LE.le Nat _ s1.heap.objs.size c := by
    simp only [List.mem_cons, List.not_mem_nil, or_false] at hc
    rcases hc with rfl | rfl <;> omega
  exact I1.fpOk hc' (I1.hok.fresh hc')
end
end L2
namespace DL
open PySem PySem.Spec L2
section
variable {X : Cx} {K : PySem.W.Frag} {mg : Str → Option Value} {ww : World} {E : XK} {ow : List Bool} {ms : Ev → R (List D)} {es : List Expr} {x1 : Nat} {tp : Pos} {a : Expr} {p pos : Pos} {st : Bool}
def numbD (xs : List D) : List D := xs.mapIdx fun i d => .tup [.int (i : Nat), d]
def enumerateD : List D → R (List D)
  | [x] => (asItems x).bind fun xs => .ok (numbD xs)
  | _ => .bad
theorem i_enumerate (hm : X.mg "enumerate" = none) (ha : PA X [a] (tA K mg ww .d E ow ms)) (hK : X.K = K := by rfl) (hg : Gl X "enumerate" := by rfl) (hs : starEach [a] X.env = [(false, eval a X.env)] := by rfl) :
    PI X (.Tuple es x1 tp) (.Call (.Name "enumerate" p) [a] [] pos) (tI K mg ww st E ow (mIt ms enumerateD)) :=
  PI.mono' (pi_enum hg hm ha hs) fun σ H Q ⟨os, ρ, hd, o⟩ => by
    subst hK
    have z := outA_bindI (md' := .d) o
    refine ⟨os, ρ, hd, ?_⟩
    revert z
    cases ms ρ with
    | rse c => exact fun z => z
    | bad => exact fun z => z
    | ok ds =>
      intro z vs H1 s1 q1
      obtain ⟨d', e', _, _, z⟩ := z vs H1 s1 q1
      cases e'
      rcases ds with _ | ⟨d1, _ | ⟨d2, rest⟩⟩
      · exact z.elim
      · replace z : OutI X.K mg ww st E os H1 ((asItems d1).bind fun xs => .ok (numbD xs)) Q := z
        cases q1 with
        | cons r1 t1 =>
          cases t1
          cases e1 : asItems d1 with
          | rse c => unfold asItems at e1; split at e1 <;> cases e1
          | bad => rw [e1] at z; exact z.elim
          | ok xs =>
            rw [e1, R.ok_bind] at z
            obtain ⟨b1, l1, vs1, rfl, c1, i1⟩ := items_sq e1 r1
            refine ⟨b1, l1, vs1, rfl, Same.sqB hide_le c1, z _ H1 (Same.refl _) ?_⟩
            intro i os' H' dm s2 _
            have k1 : SqB X.K b1 H' l1 vs1 := Same.sqB hide_le (Same.sqB s2 c1)
            refine ⟨fun d hd => ?_, fun hl => ⟨vs1, k1, ?_⟩⟩
            · unfold numbD at hd
              rw [List.getElem?_mapIdx] at hd
              cases hx : xs[i]? with
              | none => rw [hx] at hd; cases hd
              | some x =>
                rw [hx] at hd
                cases hd
                obtain ⟨vx, g1, g2⟩ := i1.atD hx
                refine ⟨⟨vs1, vx, k1, g1⟩, fun v H2 ⟨pp, x', ev, hp, eH, a1⟩ => ?_⟩
                have f1 := a1 vs1 k1
                rw [g1] at f1
                cases f1
                subst ev eH
                refine ⟨Wv.same_new hp, ?_⟩
                rw [IsD]
                exact ⟨pp, _, rfl, SqT.of (hide_some.mpr ⟨fun q => dm pp q hp, upd_same⟩), IsDs.same (hide_mono (Wv.same_new hp)) _ _ (IsDs.cons (by rw [IsD]) (IsDs.cons (IsD.same s2 _ _ g2) IsDs.nil))⟩
            · rw [i1.len]
              unfold numbD at hl
              rw [List.length_mapIdx] at hl
              exact hl
      · exact z.elim
end
end DL
namespace L2
open PySem PySem.Spec PyProof.Rows
section
variable {P : Program} {w : World} {K : PySem.W.Frag} {mg : Str → Option Value} {ww : World} {base : Heap}
theorem Fun.okR {x qual : Str} {st : Stmt} {f : Addr} {fd : FuncData} {N ps : List Str} {k : Nat} {sp : Sp} (F : Fun K x qual st f fd) (S : FnScope N ps (defScope st)) (len : ∀ vs H Q E, sp vs H Q E → vs.length = ps.length)
    (hbody : ∀ (cdv : Value) (A : Around) (outer : List Env) (s : Shared) (H : Hp) (vs : List V) (Q : VK) (E : XK), Room k (A.deeper (envOfC qual (defScope st) s.heap.objs.size f cdv)) → sp vs H Q E →
      ∃ t, PSs (cxOf (CX1 P w) P w K mg base N qual (defScope st) f cdv A outer s H E) (defBody st) t ∧ t { nx := fun _ H' => Q .non H', rt := Q } (start N vs) H) : FnOk P w K mg base (CX1 P w) (k + 1) f fd ps sp := by
  obtain ⟨oc, od, kV, doc, pm, an, cdv, ct, osl, rfl, lk, hcd⟩ := F.ex
  exact fn_of lk hcd S len fun A outer s H vs Q E hr hsp => hbody cdv A outer s H vs Q E hr hsp
end
end L2
namespace DL
open PySem PySem.Spec L2
inductive Fl where
  | nx (ρ : Ev) | rt (d : D) | bk (ρ : Ev) | ct (ρ : Ev)
structure Ext (own : List Addr) (H : Hp) (own' : List Addr) (H' : Hp) : Prop where
  keep : ∀ b o, b ∉ own → H b = some o → H' b = some o
  new : ∀ a ∈ own', a ∈ own ∨ H a = none
theorem Ext.same {own : List Addr} {H H' : Hp} (e : Same H H') : Ext own H own H' := ⟨fun b o _ z => e b o z, fun a z => .inl z⟩
theorem Ext.out {own own' : List Addr} {H H' : Hp} (e : Ext own H own' H') {b : Addr} {o : HO} (hb : b ∉ own) (h : H b = some o) : b ∉ own' := fun z => by
  rcases e.new b z with z | z
  · exact hb z
  · rw [h] at z
    cases z
theorem Ext.trans {own own1 own2 : List Addr} {H H1 H2 : Hp} (e : Ext own H own1 H1) (f : Ext own1 H1 own2 H2) : Ext own H own2 H2 where
  keep := fun b o hb h => f.keep b o (e.out hb h) (e.keep b o hb h)
  new := fun a ha => by
    rcases f.new a ha with z | z
    · exact e.new a z
    · by_cases hb : a ∈ own
      · exact .inl hb
      · cases q : H a with
        | none => exact .inr rfl
        | some o =>
          rw [e.keep a o hb q] at z
          cases z
theorem Ext.hide {own own' fro : List Addr} {H H' : Hp} (e : Ext own H own' H') : Same (DL.hide (own ++ fro) H) (DL.hide (own' ++ fro) H') := fun b o z => by
  obtain ⟨z1, z2⟩ := hide_some.mp z
  have n1 : b ∉ own := fun q => z1 (List.mem_append_left _ q)
  have n2 : b ∉ fro := fun q => z1 (List.mem_append_right _ q)
  refine hide_some.mpr ⟨fun q => ?_, e.keep b o n1 z2⟩
  rcases List.mem_append.mp q with q | q
  · exact e.out n1 z2 q
  · exact n2 q
section
variable (K : PySem.W.Frag) (mg : Str → Option Value) (ww : World) (ow : List Bool)
structure StI (fro own : List Addr) (H : Hp) (σ : St) (ρ : Ev) : Prop where
  hd : Hd K mg ww ow (own ++ fro) H σ ρ
  mine : ∀ i a d, ow.getD i false = true → ρ[i]? = some (some d) → σ[i]? = some (some (.ref a)) → a ∈ own
  off : ∀ a ∈ own, a ∉ fro
def Keep (own : List Addr) (H H' : Hp) : Prop := ∀ b o, b ∉ own → H b = some o → H' b = some o
def OutS (E : XK) (fro own : List Addr) (H : Hp) (r : R Fl) (Dn : Ends) : Prop := match r with
  | .ok (.nx ρ') => ∀ own' σ' H', Ext own H own' H' → StI K mg ww ow fro own' H' σ' ρ' → Dn.nx σ' H'
  | .ok (.bk ρ') => ∀ own' σ' H', Ext own H own' H' → StI K mg ww ow fro own' H' σ' ρ' → Dn.bk σ' H'
  | .ok (.ct ρ') => ∀ own' σ' H', Ext own H own' H' → StI K mg ww ow fro own' H' σ' ρ' → Dn.ct σ' H'
  | .ok (.rt d) => ∀ v H', Keep own H H' → IsD K mg ww (hide fro H') d v → Dn.rt v H'
  | .rse c => ∃ C, mg c = some (.ref C) ∧ ∀ H', Keep own H H' → E (.ref C) none H'
  | .bad => False
def tS (E : XK) (m : Ev → R Fl) : TS := fun Dn σ H => ∃ fro own ρ, StI K mg ww ow fro own H σ ρ ∧ OutS K mg ww ow E fro own H (m ρ) Dn
end
section
variable {X : Cx} {K : PySem.W.Frag} {mg : Str → Option Value} {ww : World} {ow : List Bool} {E : XK} {fro own own' : List Addr} {H H' : Hp} {σ : St} {ρ : Ev}
theorem StI.same (h : StI K mg ww ow fro own H σ ρ) (e : Same H H') : StI K mg ww ow fro own H' σ ρ := ⟨h.hd.same e, h.mine, h.off⟩
theorem Ext.keepT {own1 : List Addr} {H1 H2 : Hp} (e : Ext own H own1 H1) (k : Keep own1 H1 H2) : Keep own H H2 := fun b o hb h => k b o (e.out hb h) (e.keep b o hb h)
theorem OutS.ext {r : R Fl} {Dn : Ends} (h : OutS K mg ww ow E fro own H r Dn) (e : Ext own H own' H') : OutS K mg ww ow E fro own' H' r Dn := by
  cases r with
  | ok f =>
    cases f with
    | nx ρ' => exact fun o2 σ2 H2 e2 s2 => h o2 σ2 H2 (e.trans e2) s2
    | bk ρ' => exact fun o2 σ2 H2 e2 s2 => h o2 σ2 H2 (e.trans e2) s2
    | ct ρ' => exact fun o2 σ2 H2 e2 s2 => h o2 σ2 H2 (e.trans e2) s2
    | rt d => exact fun v H2 k i => h v H2 (e.keepT k) i
  | rse c =>
    obtain ⟨C, h1, h2⟩ := h
    exact ⟨C, h1, fun H2 k => h2 H2 (e.keepT k)⟩
  | bad => exact h
theorem Same.keep {own : List Addr} {H H' : Hp} (e : Same H H') : Keep own H H' := fun b o _ z => e b o z
theorem outS_bind {md : Md} {r : R D} {k : D → R Fl} {Dn : Ends} (o : OutS K mg ww ow E fro own H (r.bind k) Dn) : Out K mg ww md E (own ++ fro) H r (fun v H1 => ∃ d, r = .ok d ∧ Same H H1 ∧ Rep K mg ww md H (own ++ fro) H1 d v ∧ OutS K mg ww ow E fro own H1 (k d) Dn) := by
  cases r with
  | ok d => exact fun v H1 s q => ⟨d, rfl, s, q, OutS.ext o (Ext.same s)⟩
  | rse c =>
    obtain ⟨C, h1, h2⟩ := o
    exact ⟨C, h1, fun H2 s => h2 H2 (Same.keep s)⟩
  | bad => exact o
theorem outS_bindT {r : R Bool} {k : Bool → R Fl} {Dn : Ends} (o : OutS K mg ww ow E fro own H (r.bind k) Dn) : OutT mg E H r (fun b H1 => r = .ok b ∧ Same H H1 ∧ OutS K mg ww ow E fro own H1 (k b) Dn) := by
  cases r with
  | ok d => exact fun H1 s => ⟨rfl, s, OutS.ext o (Ext.same s)⟩
  | rse c =>
    obtain ⟨C, h1, h2⟩ := o
    exact ⟨C, h1, fun H2 s => h2 H2 (Same.keep s)⟩
  | bad => exact o
variable {st : Stmt} {rest : List Stmt} {m1 m2' : Ev → R Fl} {e c : Expr} {m : Ev → R D} {t : Ev → R Bool} {pos : Pos}
def sNil : Ev → R Fl := fun ρ => .ok (.nx ρ)
def sSeq (m1 m2 : Ev → R Fl) : Ev → R Fl := fun ρ => (m1 ρ).bind fun f => match f with
  | .nx ρ' => m2 ρ'
  | f => .ok f
theorem ss_nil : PSs X [] (tS K mg ww ow E sNil) := pss_nil.mono fun Dn σ H ⟨fro, own, ρ, h, o⟩ => o own σ H (Ext.same (Same.refl H)) h
theorem ss_one (h : PS X st (tS K mg ww ow E m1)) : PSs X [st] (tS K mg ww ow E m1) := pss_one h
theorem ss_cons (h1 : PS X st (tS K mg ww ow E m1)) (h2 : PSs X rest (tS K mg ww ow E m2')) : PSs X (st :: rest) (tS K mg ww ow E (sSeq m1 m2')) := (pss_cons h1 h2).mono fun Dn σ H ⟨fro, own, ρ, h, o⟩ => by
  refine ⟨fro, own, ρ, h, ?_⟩
  unfold sSeq at o
  revert o
  cases m1 ρ with
  | ok f =>
    cases f with
    | nx ρ' => exact fun o own2 σ2 H2 e2 s2 => ⟨fro, own2, ρ', s2, OutS.ext o e2⟩
    | bk ρ' => exact fun o => o
    | ct ρ' => exact fun o => o
    | rt d => exact fun o => o
  | rse c => exact fun o => o
  | bad => exact fun o => o
def sRet (m : Ev → R D) : Ev → R Fl := fun ρ => (m ρ).bind fun d => .ok (.rt d)
theorem s_ret (h : PE X e (tE K mg ww .d E ow m)) : PS X (.Return (some e) pos) (tS K mg ww ow E (sRet m)) := (ps_ret h).mono fun Dn σ H ⟨fro, own, ρ, h, o⟩ => by
  refine ⟨own ++ fro, ρ, h.hd, ?_⟩
  have z := outS_bind (md := .d) o
  revert z
  cases m ρ with
  | ok d =>
    intro z v H1 s1 q1
    obtain ⟨d', e', _, q, z⟩ := z v H1 s1 q1
    cases e'
    exact z v H1 (Same.keep (Same.refl H1)) (IsD.same (hide_sub fun a ha => List.mem_append_right _ ha) _ _ q1)
  | rse c => exact fun z => z
  | bad => exact fun z => z
theorem s_retV (i : Nat) {x : Str} {pos' : Pos} (ho : ow.getD i false = true := by rfl) (hN : X.N[i]? = some x := by rfl) (hv : Vis X.env.scope x := by first | exact Or.inl rfl | exact Or.inr (Or.inl rfl) | exact Or.inr (Or.inr rfl))
    (hd : (x == ("__debug__" : Str)) = false := by decide) (hcd : (x == ("__classdict__" : Str)) = false := by decide) : PS X (.Return (some (.Name x pos')) pos) (tS K mg ww ow E (sRet (mV i))) := (ps_ret (pe_var hN hv hd hcd)).mono fun Dn σ H ⟨fro, own, ρ, h, o⟩ => by
  unfold sRet mV at o
  split at o
  · rename_i d hi
    obtain ⟨a, h1, h2, h3⟩ := h.hd.own i d ho hi
    have ha := h.mine i a d ho hi h1
    exact ⟨_, h1, o _ H (Same.keep (Same.refl H)) (h3.to (h.off a ha) (hide_sub fun b hb => List.mem_append_right _ hb))⟩
  · exact o.elim
def sSet (i : Nat) (m : Ev → R D) : Ev → R Fl := fun ρ => (m ρ).bind fun d => .ok (.nx (ρ.set i (some d)))
theorem StI.set (h : StI K mg ww ow fro own H σ ρ) {i : Nat} {d : D} {v : V} (hi : ow.getD i false = false) (hv : IsD K mg ww (hide (own ++ fro) H) d v) : StI K mg ww ow fro own H (σ.set i (some v)) (ρ.set i (some d)) where
  hd := h.hd.set hi hv
  mine := fun j a e h1 h2 h3 => by
    have hj : i ≠ j := fun z => by
      subst z
      rw [hi] at h1
      cases h1
    rw [List.getElem?_set_ne hj] at h2 h3
    exact h.mine j a e h1 h2 h3
  off := h.off
theorem set_go {i : Nat} {Dn : Ends} (ho : ow.getD i false = false) (h : tS K mg ww ow E (sSet i m) Dn σ H) : tE K mg ww .d E ow m σ H fun x H1 => gName i x σ H1 Dn.nx := by
  obtain ⟨fro, own, ρ, h, o⟩ := h
  refine ⟨own ++ fro, ρ, h.hd, ?_⟩
  have z := outS_bind (md := .d) o
  revert z
  cases m ρ with
  | ok d =>
    intro z v H1 s1 q1
    obtain ⟨d', e', _, q, z⟩ := z v H1 s1 q1
    cases e'
    exact z own _ H1 (Ext.same (Same.refl H1)) ((h.same s1).set ho q1)
  | rse c => exact fun z => z
  | bad => exact fun z => z
theorem s_set {i : Nat} {x : Str} {pos' : Pos} (hN : X.N.Nodup) (he : PE X e (tE K mg ww .d E ow m)) (ho : ow.getD i false = false := by rfl) (hi : X.N[i]? = some x := by rfl) (hx : Loc X.env.scope x := by first | exact Or.inl rfl | exact Or.inr rfl)
    (hs : swapsWith e (some (.Name x pos')) pos.line X.env = pure false := by rfl) (hf : X.fn x = true ∨ X.env.scope.names.lookup x = some .local := by first | exact .inl rfl | exact .inr rfl | assumption) : PS X (.Assign [.Name x pos'] e pos) (tS K mg ww ow E (sSet i m)) :=
  (ps_set hN hi hx he hs hf).mono fun Dn σ H h => set_go ho h
theorem StI.setF (h : StI K mg ww ow fro own H σ ρ) {i : Nat} {d : D} {a : Addr} (s : Same H H') (h0 : H a = none) (hv : ObjD K mg ww (hide (a :: (own ++ fro)) H') a (H' a) d) (hi : ow.getD i false = true) : StI K mg ww ow fro (a :: own) H' (σ.set i (some (.ref a))) (ρ.set i (some d)) where
  hd := by
    obtain ⟨u, hu⟩ := hv.ex
    have hm := h.hd.more s h0 (by rw [hu]; simp)
    refine ⟨by rw [List.length_set, List.length_set]; exact h.hd.len, hm.dom, fun j e h1 h2 => ?_, fun j e h1 h2 => ?_, fun j k b e e' n h1 h2 h3 h4 h5 h6 => ?_⟩
    · have hj : i ≠ j := fun z => by
        subst z
        rw [hi] at h1
        cases h1
      rw [List.getElem?_set_ne hj] at h2 ⊢
      exact hm.imm j e h1 h2
    · by_cases hj : i = j
      · subst hj
        have hlt : i < ρ.length := by
          have := (List.getElem?_eq_some_iff.mp h2).1
          simpa using this
        rw [List.getElem?_set_self hlt] at h2
        cases h2
        exact ⟨a, List.getElem?_set_self (by rw [h.hd.len]; exact hlt), List.mem_cons_self, hv⟩
      · rw [List.getElem?_set_ne hj] at h2 ⊢
        exact hm.own j e h1 h2
    · have old : ∀ k e, i ≠ k → ow.getD k false = true → ρ[k]? = some (some e) → σ[k]? ≠ some (some (.ref a)) := fun k e _ z1 z2 z3 => by
        obtain ⟨b, y1, y2, _⟩ := h.hd.own k e z1 z2
        rw [y1] at z3
        cases z3
        exact h.hd.dom _ y2 h0
      by_cases hj : i = j
      · subst hj
        have hk : i ≠ k := n
        have hlt : i < σ.length := by
          have := (List.getElem?_eq_some_iff.mp h5).1
          simpa using this
        rw [List.getElem?_set_self hlt] at h5
        cases h5
        rw [List.getElem?_set_ne hk] at h4 h6
        exact old k e' hk h2 h4 h6
      · by_cases hk : i = k
        · subst hk
          have hlt : i < σ.length := by
            have := (List.getElem?_eq_some_iff.mp h6).1
            simpa using this
          rw [List.getElem?_set_self hlt] at h6
          cases h6
          rw [List.getElem?_set_ne hj] at h3 h5
          exact old j e hj h1 h3 h5
        · rw [List.getElem?_set_ne hj] at h3 h5
          rw [List.getElem?_set_ne hk] at h4 h6
          exact h.hd.apart j k b e e' n h1 h2 h3 h4 h5 h6
  mine := fun j b e h1 h2 h3 => by
    by_cases hj : i = j
    · subst hj
      have hlt : i < σ.length := by
        have := (List.getElem?_eq_some_iff.mp h3).1
        simpa using this
      rw [List.getElem?_set_self hlt] at h3
      cases h3
      exact List.mem_cons_self
    · rw [List.getElem?_set_ne hj] at h2 h3
      exact List.mem_cons_of_mem _ (h.mine j b e h1 h2 h3)
  off := fun b hb => by
    rcases List.mem_cons.mp hb with z | z
    · subst z
      exact fun q => h.hd.dom b (List.mem_append_right _ q) h0
    · exact h.off b z
theorem setF_go {i : Nat} {Dn : Ends} (ho : ow.getD i false = true) (h : tS K mg ww ow E (sSet i m) Dn σ H) : tE K mg ww .f E ow m σ H fun x H1 => gName i x σ H1 Dn.nx := by
  obtain ⟨fro, own, ρ, h, o⟩ := h
  refine ⟨own ++ fro, ρ, h.hd, ?_⟩
  unfold sSet at o
  revert o
  cases m ρ with
  | ok d =>
    intro o v H1 s1 q1
    obtain ⟨a, rfl, h0, hv⟩ := q1
    refine o (a :: own) _ H1 ⟨fun b o' _ z => s1 b o' z, fun b hb => ?_⟩ (h.setF s1 h0 hv ho)
    rcases List.mem_cons.mp hb with z | z
    · rw [z]
      exact .inr h0
    · exact .inl z
  | rse c =>
    rintro ⟨C, h1, h2⟩
    exact ⟨C, h1, fun H2 s => h2 H2 (Same.keep s)⟩
  | bad => exact fun z => z
theorem s_setF {i : Nat} {x : Str} {pos' : Pos} (hN : X.N.Nodup) (he : PE X e (tE K mg ww .f E ow m)) (ho : ow.getD i false = true := by rfl) (hi : X.N[i]? = some x := by rfl) (hx : Loc X.env.scope x := by first | exact Or.inl rfl | exact Or.inr rfl)
    (hs : swapsWith e (some (.Name x pos')) pos.line X.env = pure false := by rfl) (hf : X.fn x = true ∨ X.env.scope.names.lookup x = some .local := by first | exact .inl rfl | exact .inr rfl | assumption) : PS X (.Assign [.Name x pos'] e pos) (tS K mg ww ow E (sSet i m)) :=
  (ps_set hN hi hx he hs hf).mono fun Dn σ H h => setF_go ho h
theorem fd_go {Q : VK} (h : tE K mg ww .d E ow m σ H Q) : tE K mg ww .f E ow m σ H Q := by
  obtain ⟨os, ρ, hd, o⟩ := h
  refine ⟨os, ρ, hd, ?_⟩
  revert o
  cases m ρ with
  | ok d => exact fun o v H' s q => o v H' s (q.fd hd.dom)
  | rse c => exact fun o => o
  | bad => exact fun o => o
section
variable {scope : Scope} {N' : List Str} {src : List (Option Nat)} {elt tg iter : Expr} {ifs : List Expr} {p py spos : Pos} {mi : Ev → R (List D)} {g : D → Ev → R Ev} {t' : Ev → R Bool} {e' : Ev → R D} {i : Nat} {y : Str}
theorem s_setLc (hN : X.N.Nodup) (L : LcOk X scope N' src) (hi : PI X tg iter (tI K mg ww true E ow mi)) (hg : ∀ C s2 H1 fp, PG (compCx X scope C N' s2 H1 fp) tg (tG K mg ww (src.map (pickO ow)) g)) (ht : ∀ C s2 H1 fp, PTL (compCx X scope C N' s2 H1 fp) ifs (tT K mg ww E0 (src.map (pickO ow)) t'))
    (he : ∀ C s2 H1 fp, PE (compCx X scope C N' s2 H1 fp) elt (tE K mg ww .d E0 (src.map (pickO ow)) e')) (hsub : ∀ ρ d ρ1, g d (src.map (pickD ρ)) = .ok ρ1 → Sub (src.map (pickD ρ)) ρ1) (hsrc : SrcOk src) (ho : ow.getD i false = false := by rfl) (hc : X.calm = true := by rfl)
    (hy : X.N[i]? = some y := by rfl) (hx : Loc X.env.scope y := by first | exact Or.inl rfl | exact Or.inr rfl)
    (hsw : swapsWith (.ListComp elt [⟨tg, iter, ifs, 0⟩] scope p) (some (.Name y py)) spos.line X.env = pure true := by rfl)
    (hs : ∀ x, foldedSetIterable iter X.env x = pure x := by intro _; rfl) (hf : X.fn y = true ∨ X.env.scope.names.lookup y = some .local := by first | exact .inl rfl | exact .inr rfl | assumption) :
    PS X (.Assign [.Name y py] (.ListComp elt [⟨tg, iter, ifs, 0⟩] scope p) spos) (tS K mg ww ow E (sSet i (mLc mi src g t' e'))) := (ps_setLc hc hN hy hx L hi hg ht he hsw hs hf).mono fun Dn σ H h => lc_go hsub hsrc (fd_go (set_go ho h))
end
def sIf (t : Ev → R Bool) (m1 m2 : Ev → R Fl) : Ev → R Fl := fun ρ => (t ρ).bind fun k => if k = true then m1 ρ else m2 ρ
theorem s_if {a b : List Stmt} (hc : PT X c (tT K mg ww E ow t)) (ha : PSs X a (tS K mg ww ow E m1)) (hb : PSs X b (tS K mg ww ow E m2')) : PS X (.If c a b pos) (tS K mg ww ow E (sIf t m1 m2')) := (ps_if hc ha hb).mono fun Dn σ H ⟨fro, own, ρ, h, o⟩ => by
  refine ⟨own ++ fro, ρ, h.hd, ?_⟩
  have z := outS_bindT o
  revert z
  cases t ρ with
  | ok k =>
    intro z H1 s1
    obtain ⟨_, _, z⟩ := z H1 s1
    cases k with
    | true =>
      rw [if_pos rfl] at z ⊢
      exact ⟨fro, own, ρ, h.same s1, z⟩
    | false =>
      rw [if_neg Bool.false_ne_true] at z ⊢
      exact ⟨fro, own, ρ, h.same s1, z⟩
  | rse c => exact fun z => z
  | bad => exact fun z => z
def sExpr (m : Ev → R D) : Ev → R Fl := fun ρ => (m ρ).bind fun _ => .ok (.nx ρ)
theorem s_expr (he : PE X e (tE K mg ww .d E ow m)) (hs : swapsWith e none pos.line X.env = pure false := by rfl) : PS X (.Expr e pos) (tS K mg ww ow E (sExpr m)) := (ps_expr he hs).mono fun Dn σ H ⟨fro, own, ρ, h, o⟩ => by
  refine ⟨own ++ fro, ρ, h.hd, ?_⟩
  have z := outS_bind (md := .d) o
  revert z
  cases m ρ with
  | ok d =>
    intro z v H1 s1 q1
    obtain ⟨d', e', _, q, z⟩ := z v H1 s1 q1
    cases e'
    exact z own σ H1 (Ext.same (Same.refl H1)) (h.same s1)
  | rse c => exact fun z => z
  | bad => exact fun z => z
theorem StI.write (h : StI K mg ww ow fro own H σ ρ) {i : Nat} {a : Addr} {o : HO} {d d0 : D} (ho : ow.getD i false = true) (hi : ρ[i]? = some (some d0)) (ha : σ[i]? = some (some (.ref a))) (hv : ObjD K mg ww (hide (own ++ fro) H) a (some o) d) : StI K mg ww ow fro own (upd H a o) σ (ρ.set i (some d)) where
  hd := by
    have hm : a ∈ own ++ fro := List.mem_append_left _ (h.mine i a d0 ho hi ha)
    have hlt := (List.getElem?_eq_some_iff.mp hi).1
    refine ⟨by rw [List.length_set]; exact h.hd.len, fun b hb => ?_, fun j e h1 h2 => ?_, fun j e h1 h2 => ?_, fun j k b e e' n h1 h2 h3 h4 h5 h6 => ?_⟩
    · by_cases hb' : b = a
      · rw [hb', upd_same]
        simp
      · rw [upd_ne hb']
        exact h.hd.dom b hb
    · have hj : i ≠ j := fun z => by
        subst z
        rw [ho] at h1
        cases h1
      rw [List.getElem?_set_ne hj] at h2
      rw [hide_upd hm]
      exact h.hd.imm j e h1 h2
    · by_cases hj : i = j
      · subst hj
        rw [List.getElem?_set_self hlt] at h2
        cases h2
        refine ⟨a, ha, hm, ?_⟩
        rw [hide_upd hm, upd_same]
        exact hv
      · rw [List.getElem?_set_ne hj] at h2
        obtain ⟨b, z1, z2, z3⟩ := h.hd.own j e h1 h2
        refine ⟨b, z1, z2, ?_⟩
        rw [hide_upd hm, upd_ne fun z => h.hd.apart i j a d0 e hj ho h1 hi h2 ha (by rw [← z]; exact z1)]
        exact z3
    · have sw : ∀ {k e}, ow.getD k false = true → (ρ.set i (some d))[k]? = some (some e) → ∃ e', ρ[k]? = some (some e') := fun {k e} z1 z2 => by
        by_cases hk : i = k
        · subst hk
          exact ⟨d0, hi⟩
        · rw [List.getElem?_set_ne hk] at z2
          exact ⟨e, z2⟩
      obtain ⟨f1, g1⟩ := sw h1 h3
      obtain ⟨f2, g2⟩ := sw h2 h4
      exact h.hd.apart j k b f1 f2 n h1 h2 g1 g2 h5 h6
  mine := fun j b e h1 h2 h3 => by
    by_cases hj : i = j
    · subst hj
      exact h.mine i b d0 h1 hi h3
    · rw [List.getElem?_set_ne hj] at h2
      exact h.mine j b e h1 h2 h3
  off := h.off
def sApp (i : Nat) (m : Ev → R D) : Ev → R Fl := fun ρ => match ρ[i]? with
  | some (some (.lst ds)) => (m ρ).bind fun d => if ds.length ≤ 100000 then .ok (.nx (ρ.set i (some (.lst (ds ++ [d]))))) else .bad
  | _ => .bad
theorem s_app {i : Nat} {x : Str} {p1 p2 p3 p4 : Pos} (he : PE X e (tE K mg ww .d E ow m)) (ho : ow.getD i false = true := by rfl) (hN : X.N[i]? = some x := by rfl) (hv : Vis X.env.scope x := by first | exact Or.inl rfl | exact Or.inr (Or.inl rfl) | exact Or.inr (Or.inr rfl))
    (hd : (x == ("__debug__" : Str)) = false := by decide) (hcd : (x == ("__classdict__" : Str)) = false := by decide)
    (hbase : attributeBase (.Name x p1) "append" X.env (eval (.Name x p1) X.env) = eval (.Name x p1) X.env := by rfl)
    (hfew : ((backTo p3 (starEach [e] X.env)).all (fun x => !x.1) && (backToKw p3 (keywordEach [] X.env)).all (fun x => x.1.isSome) && decide ([e].length + ([] : List Keyword).length + (if ([] : List Keyword).isEmpty then 0 else 1) < 30)) = true := by rfl)
    (hline : (p2.endLine == p3.line) = true := by rfl) (hst : starEach [e] X.env = (false, eval e X.env) :: starEach [] X.env := by rfl) (hplain : (backTo p3 (starEach [] X.env)).any (·.1) = false := by rfl)
    (hs : swapsWith (.Call (.Attribute (.Name x p1) "append" p2) [e] [] p3) none p4.line X.env = pure false := by rfl) :
    PS X (.Expr (.Call (.Attribute (.Name x p1) "append" p2) [e] [] p3) p4) (tS K mg ww ow E (sApp i m)) :=
  (ps_expr (pe_bm PySem.F.plainAttrs_list PySem.F.slot_list_append PySem.F.type_list_append mt_append (pe_var hN hv hd hcd) (pa_cons he pa_nil hst) hbase hfew hline hst hplain) hs).mono fun Dn σ H ⟨fro, own, ρ, h, o⟩ => by
    unfold sApp at o
    split at o
    · rename_i ds hi
      obtain ⟨a, h1, h2, xs, h3, h4⟩ := h.hd.own i _ ho hi
      refine ⟨_, h1, .inl ⟨rfl, xs, SqL.of h3⟩, own ++ fro, ρ, h.hd, ?_⟩
      have z := outS_bind (md := .d) o
      revert z
      cases m ρ with
      | ok d =>
        intro z v H1 s1 q1
        obtain ⟨d', e', _, q, z⟩ := z v H1 s1 q1
        cases e'
        split at z
        · rename_i hl
          have h' := h.same s1
          refine ⟨a, xs, v, rfl, rfl, s1 _ _ h3, ?_, ?_⟩
          · rw [h4.len, sizeLine_eq]
            omega
          · refine z own σ _ ⟨fun b o' hb z => ?_, fun b hb => .inl hb⟩ (h'.write ho hi h1 ⟨xs ++ [v], rfl, (IsDs.same (hide_mono s1) _ _ h4).append (IsDs.cons q1 IsDs.nil)⟩)
            rw [upd_ne fun q => hb (by rw [q]; exact h.mine i a _ ho hi h1)]
            exact z
        · exact z.elim
      | rse c => exact fun z => z
      | bad => exact fun z => z
    · exact o.elim
def forD (g : D → Ev → R Ev) (mb : Ev → R Fl) : List D → Ev → R Fl
  | [], ρ => .ok (.nx ρ)
  | d :: ds, ρ => (nr (g d ρ)).bind fun ρ1 => (mb ρ1).bind fun f => match f with
    | .nx ρ2 => forD g mb ds ρ2
    | .ct ρ2 => forD g mb ds ρ2
    | .bk ρ2 => .ok (.nx ρ2)
    | .rt d => .ok (.rt d)
def sFor (mi : Ev → R (List D)) (g : D → Ev → R Ev) (mb : Ev → R Fl) : Ev → R Fl := fun ρ => (mi ρ).bind fun items => forD g mb items ρ
variable {tg iter : Expr} {body : List Stmt} {mi : Ev → R (List D)} {g : D → Ev → R Ev} {mb : Ev → R Fl}
def Again (K : PySem.W.Frag) (mg : Str → Option Value) (ww : World) (ow : List Bool) (E : XK) (fro own : List Addr) (H1 : Hp) (k : Ev → R Fl) (Dn : Ends) (σ2 : St) (H2 : Hp) : Prop := ∃ own2 ρ2, StI K mg ww ow fro own2 H2 σ2 ρ2 ∧ Ext own H1 own2 H2 ∧ OutS K mg ww ow E fro own2 H2 (k ρ2) Dn
theorem body_go {k : Ev → R Fl} {Dn : Ends} {own0 : List Addr} {H0 : Hp} (h : StI K mg ww ow fro own H σ ρ) (x0 : Ext own0 H0 own H) (o : OutS K mg ww ow E fro own H ((mb ρ).bind fun f => match f with
    | .nx ρ2 => k ρ2
    | .ct ρ2 => k ρ2
    | .bk ρ2 => .ok (.nx ρ2)
    | .rt d => .ok (.rt d)) Dn) : tS K mg ww ow E mb { Dn with nx := Again K mg ww ow E fro own0 H0 k Dn, ct := Again K mg ww ow E fro own0 H0 k Dn, bk := Dn.nx } σ H := by
  refine ⟨fro, own, ρ, h, ?_⟩
  revert o
  cases mb ρ with
  | ok f =>
    cases f with
    | nx ρ2 => exact fun o own2 σ2 H2 e2 s2 => ⟨own2, ρ2, s2, x0.trans e2, OutS.ext o e2⟩
    | ct ρ2 => exact fun o own2 σ2 H2 e2 s2 => ⟨own2, ρ2, s2, x0.trans e2, OutS.ext o e2⟩
    | bk ρ2 => exact fun o => o
    | rt d => exact fun o => o
  | rse c => exact fun o => o
  | bad => exact fun o => o
theorem s_for (hp : PassesOwn (model X.prog X.w) X.A X.env X.xe) (hi : PI X tg iter (tI K mg ww false E ow mi)) (hg : PG X tg (tG K mg ww ow g)) (hb : PSs X body (tS K mg ww ow E mb)) (hc : X.calm = true := by rfl) (hs : ∀ x, foldedSetIterable iter X.env x = pure x := by intro _; rfl) :
    PS X (.For tg iter body [] pos) (tS K mg ww ow E (sFor mi g mb)) := (ps_for hp hc hi hg hb hs).mono fun Dn σ H ⟨fro, own, ρ, h, o⟩ => by
  refine ⟨own ++ fro, ρ, h.hd, ?_⟩
  unfold sFor at o
  revert o
  cases mi ρ with
  | rse c =>
    rintro ⟨C, h1, h2⟩
    exact ⟨C, h1, fun H2 s => h2 H2 (Same.keep s)⟩
  | bad => exact fun o => o
  | ok items =>
    rw [R.ok_bind]
    intro o J H1 s1 it
    refine ⟨fun i m σ' H' => m = items.length - i ∧ i ≤ items.length ∧ Again K mg ww ow E fro own H1 (forD g mb (items.drop i)) Dn σ' H', ⟨items.length, by simp, Nat.zero_le _, own, ρ, h.same s1, Ext.same (Same.refl H1), by rw [List.drop_zero]; exact OutS.ext o (Ext.same s1)⟩, ?_⟩
    rintro i m σ' H' ⟨rfl, hi, own', ρ', h', x', o'⟩
    obtain ⟨it1, it2⟩ := it i (own' ++ fro) H' h'.hd.dom x'.hide fun z => by cases z
    by_cases hlt : i < items.length
    · obtain ⟨go, yl⟩ := it1 _ (List.getElem?_eq_getElem hlt)
      refine .inr ⟨go, Again K mg ww ow E fro own H1 (forD g mb (items.drop (i + 1))) Dn, fun σ2 H2 w => ⟨items.length - (i + 1), by omega, rfl, hlt, w⟩, fun x H2 y => ?_⟩
      obtain ⟨s2, hx⟩ := yl x H2 y
      rw [List.drop_eq_getElem_cons hlt, forD] at o'
      refine ⟨own' ++ fro, ρ', items[i], h'.hd.same s2, hx, ?_⟩
      revert o'
      cases g items[i] ρ' with
      | rse c => exact fun o' => o'.elim
      | bad => exact fun o' => o'.elim
      | ok ρ1 =>
        intro o' σ2 ks hd2
        have h2 : StI K mg ww ow fro own' H2 σ2 ρ1 := ⟨hd2, fun j a d z1 z2 z3 => h'.mine j a d z1 (by rw [← (ks j z1).2]; exact z2) (by rw [← (ks j z1).1]; exact z3), h'.off⟩
        exact body_go h2 (x'.trans (Ext.same s2)) (OutS.ext o' (Ext.same s2))
    · have e1 : i = items.length := by omega
      subst e1
      rw [List.drop_length, forD] at o'
      exact .inl ⟨it2 (Nat.le_refl _), o' own' σ' H' (Ext.same (Same.refl H')) h'⟩
def whileD (t : Ev → R Bool) (mb : Ev → R Fl) : Nat → Ev → R Fl
  | 0, _ => .bad
  | n + 1, ρ => (t ρ).bind fun k => if k = true then (mb ρ).bind fun f => match f with
    | .nx ρ2 => whileD t mb n ρ2
    | .ct ρ2 => whileD t mb n ρ2
    | .bk ρ2 => .ok (.nx ρ2)
    | .rt d => .ok (.rt d) else .ok (.nx ρ)
theorem s_while (n : Nat) (hp : PassesOwn (model X.prog X.w) X.A X.env X.xe) (hc : PT X c (tT K mg ww E ow t)) (hb : PSs X body (tS K mg ww ow E mb)) : PS X (.While c body [] pos) (tS K mg ww ow E (whileD t mb n)) := (ps_while hp hc hb).mono fun Dn σ H ⟨fro, own, ρ, h, o⟩ => by
  refine ⟨fun m σ' H' => Again K mg ww ow E fro own H (whileD t mb m) Dn σ' H', ⟨n, own, ρ, h, Ext.same (Same.refl H), o⟩, ?_⟩
  rintro m σ' H' ⟨own', ρ', h', x', o'⟩
  refine ⟨own' ++ fro, ρ', h'.hd, ?_⟩
  cases m with
  | zero => exact o'.elim
  | succ m =>
    unfold whileD at o'
    have z := outS_bindT o'
    revert z
    cases t ρ' with
    | ok k =>
      intro z H1 s1
      obtain ⟨_, _, z⟩ := z H1 s1
      cases k with
      | true =>
        rw [if_pos rfl] at z ⊢
        exact ⟨Again K mg ww ow E fro own H (whileD t mb m) Dn, fun σ2 H2 w => ⟨m, Nat.lt_succ_self m, w⟩, body_go (h'.same s1) (x'.trans (Ext.same s1)) z⟩
      | false =>
        rw [if_neg Bool.false_ne_true] at z ⊢
        exact z own' σ' H1 (Ext.same (Same.refl H1)) (h'.same s1)
    | rse c => exact fun z => z
    | bad => exact fun z => z
def sRse (c : Str) (ms : Ev → R (List D)) : Ev → R Fl := fun ρ => (ms ρ).bind fun ds => if ds.length ≤ 1000 then .rse c else .bad
theorem s_raise {x : Str} {C : Addr} {np cpos : Pos} {es : List Expr} {ms : Ev → R (List D)} (hcl : ExcCls X.K C) (hm : X.mg x = some (.ref C)) (hmg : mg x = some (.ref C)) (ha : PA X (e :: es) (tA K mg ww .d E ow ms))
    (hR : ∀ pins σ H s h' ea args, Inv X pins σ H s → E (.ref C) none H → Heap.MadeExcOf s.heap h' ea (.ref C) args → X.xe (.ref ea) { s with heap := h' }) (hc : X.calm = true := by rfl) (hg : Gl X x := by rfl)
    (he : starEach (e :: es) X.env = (false, eval e X.env) :: starEach es X.env := by rfl) (hpl : (backTo cpos (starEach es X.env)).any (·.1) = false := by rfl) (hdb : (x == ("__debug__" : Str)) = false := by decide) :
    PS X (.Raise (some (.Call (.Name x np) (e :: es) [] cpos)) none pos) (tS K mg ww ow E (sRse x ms)) := (ps_raise (R := fun H => E (.ref C) none H) hc hcl hg hm ha hR he hpl hdb).mono fun Dn σ H ⟨fro, own, ρ, h, o⟩ => by
  refine ⟨own ++ fro, ρ, h.hd, ?_⟩
  unfold sRse at o
  revert o
  cases ms ρ with
  | ok ds =>
    intro o vs H1 s1 q1
    have hd1 := isDs_of q1
    rw [R.ok_bind] at o
    split at o
    · rename_i hl
      obtain ⟨C', h1, h2⟩ := o
      rw [hmg] at h1
      cases h1
      exact ⟨by rw [hd1.len]; exact big1000 hl, h2 H1 (Same.keep s1)⟩
    · exact o.elim
  | rse c =>
    rintro ⟨C, h1, h2⟩
    exact ⟨C, h1, fun H2 s => h2 H2 (Same.keep s)⟩
  | bad => exact fun o => o
def noEv (n : Nat) : Ev := List.replicate n none
theorem noEv_no {n i : Nat} {d : D} : (noEv n)[i]? ≠ some (some d) := by
  unfold noEv
  rw [List.getElem?_replicate]
  split <;> simp
theorem StI.none {n : Nat} (dm : ∀ a ∈ fro, H a ≠ Option.none) (hl : σ.length = n) : StI K mg ww ow fro [] H σ (noEv n) where
  hd := ⟨by unfold noEv; rw [List.length_replicate]; exact hl, dm, fun i d _ z => absurd z noEv_no, fun i d _ z => absurd z noEv_no, fun i j a d e _ _ _ z => absurd z noEv_no⟩
  mine := fun i a d _ z => absurd z noEv_no
  off := fun a z => nomatch z
end
def runB (n : Nat) (mb : Ev → R Fl) : List D → R D := fun ds => match mb (ds.map some ++ List.replicate (n - ds.length) none) with
  | .ok (.rt d) => .ok d
  | .ok (.nx _) => .ok .non
  | .rse c => .rse c
  | _ => .bad
section
variable {P : Program} {w : World} {K : PySem.W.Frag} {mg : Str → Option Value} {ww : World} {base : Heap}
theorem fnD {x qual : Str} {st : Stmt} {f : Addr} {fd : FuncData} {N ps : List Str} {k : Nat} {ow : List Bool} {mb : Ev → R Fl} (F : Fun K x qual st f fd) (S : FnScope N ps (defScope st)) (hps : ((List.range ps.length).all fun i => !ow.getD i false) = true)
    (hb : ∀ (cdv : Value) (A : Around) (outer : List Env) (s : Shared) (H : Hp) (E : XK), Room k (A.deeper (PyProof.Rows.envOfC qual (defScope st) s.heap.objs.size f cdv)) → PSs (cxOf (CX1 P w) P w K mg base N qual (defScope st) f cdv A outer s H E) (defBody st) (tS K mg ww ow E mb)) :
    FnOk P w K mg base (CX1 P w) (k + 1) f fd ps (spD K mg ww ps.length (runB N.length mb)) := by
  refine F.okR S (fun vs H Q E h => h.1) fun cdv A outer s H vs Q E hr h => ?_
  obtain ⟨hl, os, ds, dm, hd, o⟩ := h
  refine ⟨_, hb cdv A outer s H E hr, os, [], ds.map some ++ List.replicate (N.length - ds.length) none, ⟨⟨?_, fun a ha => dm a ha, fun i d h1 h2 => ?_, fun i d h1 h2 => ?_, fun i j a d e n h1 h2 h3 => ?_⟩, fun i a d h1 h2 h3 => ?_, fun a z => nomatch z⟩, ?_⟩
  · unfold L2.start
    rw [List.length_append, List.length_append, List.length_map, List.length_map, List.length_replicate, List.length_replicate, hd.len]
  · have hi : i < ds.length := by
      by_cases hi : i < ds.length
      · exact hi
      · rw [List.getElem?_append_right (by simpa using hi), List.getElem?_replicate] at h2
        split at h2 <;> cases h2
    rw [List.getElem?_append_left (by simpa using hi), List.getElem?_map] at h2
    cases q : ds[i]? with
    | none =>
      rw [q] at h2
      cases h2
    | some d' =>
      rw [q] at h2
      cases h2
      obtain ⟨v, z1, z2⟩ := hd.atD q
      refine ⟨v, ?_, z2⟩
      unfold L2.start
      rw [List.getElem?_append_left (by rw [List.length_map, hd.len]; exact hi), List.getElem?_map, z1]
      rfl
  all_goals
    first
    | (have hi : i < ds.length := by
        by_cases hi : i < ds.length
        · exact hi
        · first
          | (rw [List.getElem?_append_right (by simpa using hi), List.getElem?_replicate] at h2
             split at h2 <;> cases h2)
          | (rw [List.getElem?_append_right (by simpa using hi), List.getElem?_replicate] at h3
             split at h3 <;> cases h3)
       have z := List.all_eq_true.mp hps i (List.mem_range.mpr (by rw [← hl, hd.len]; exact hi))
       rw [h1] at z
       cases z)
    | skip
  revert o
  unfold runB
  cases mb (ds.map some ++ List.replicate (N.length - ds.length) none) with
  | ok fl =>
    cases fl with
    | nx ρ' => exact fun o own' σ' H' e' s' => o .non H' (fun b o' z => e'.keep b o' (by simp) z) (show IsD K mg ww _ _ _ by rw [IsD])
    | rt d => exact fun o v H' k i => o v H' (fun b o' z => k b o' (by simp) z) i
    | bk ρ' => exact fun o => o.elim
    | ct ρ' => exact fun o => o.elim
  | rse c =>
    rintro ⟨C, h1, h2⟩
    exact ⟨C, h1, fun H2 k => h2 H2 fun b o' z => k b o' (by simp) z⟩
  | bad => exact fun o => o
end
theorem passE0 {P : Program} {w : World} {X : Cx} : Passes (CX1 P w) X E0 := fun pins σ H s e s' I h => by
  obtain ⟨_, _, _, _, _, _, _, _, _, _, _, _, hw⟩ := h
  exact hw.elim
end DL
namespace L2
open PySem PySem.Spec PyProof.Rows
section
variable {X : Cx}
theorem op_cat3 : OpR X (binaryOp .Add) (fun x y H Q => ∃ a b xs ys, x = .ref a ∧ y = .ref b ∧ SqT X.K H a xs ∧ SqT X.K H b ys ∧ xs.length + ys.length ≤ sizeLine ∧ (ys = [] → Q (.ref a) H) ∧ (xs = [] → Q (.ref b) H) ∧ ∀ p, H p = none → Q (.ref p) (upd H p (.tup (xs ++ ys)))) := by
  intro pins s σ H x y v u Q I rx ry h
  obtain ⟨a, b, xs, ys, rfl, rfl, ha, hb, hz, q1, q2, q3⟩ := h
  by_cases hx : xs = []
  · subst hx
    cases (show v = Value.ref a from rx)
    cases (show u = Value.ref b from ry)
    obtain ⟨its, r1, p1, _⟩ := I.tuple ha
    obtain ⟨its2, r2, p2, _⟩ := I.tuple hb
    cases r1
    exact cat_tup0 p1 p2 ⟨.ref b, H, I, rfl, q2 rfl⟩
  · exact op_catT pins s σ H (.ref a) (.ref b) v u Q I rx ry ⟨a, b, xs, ys, rfl, rfl, ha, hb, hx, hz, q1, fun _ => q3⟩
theorem op_rep3 : OpR X (binaryOp .Mult) (fun x y H Q => ∃ a k xs, x = .ref a ∧ y = .int k ∧ SqT X.K H a xs ∧ xs ≠ [] ∧ 2 ≤ k ∧ k < 2 ^ 62 ∧ xs.length * k.toNat ≤ sizeLine ∧ ∀ p, H p = none → Q (.ref p) (upd H p (.tup (List.replicate k.toNat xs).flatten))) := by
  intro pins s σ H x y v u Q I rx ry h
  obtain ⟨a, k, xs, rfl, rfl, ha, hne, h2, h3, hz, q⟩ := h
  cases (show v = Value.ref a from rx)
  obtain ⟨t, rfl⟩ := (show ∃ t, u = Value.int k t from ry)
  obtain ⟨its, r1, ⟨⟨c1, d1, y1, z1⟩, ho, hc, n, hd⟩, _⟩ := I.tuple ha
  simp only at hc hd
  subst hc hd
  have hl := r1.length
  have hne' : its.toArray.isEmpty = false := by
    cases its with
    | nil => exact absurd (List.length_eq_zero_iff.mp hl) hne
    | cons _ _ => rfl
  have hz' : its.toArray.size * k.toNat ≤ sizeLine := by rw [List.size_toArray, ← hl]; exact hz
  have e := foldl_rep its k.toNat []
  rw [List.nil_append] at e
  refine wpAny_binaryOp_repeat_ref (T := "tuple") (U := "int") (by decide) ⟨_, ho, rfl⟩ (fun s' => typeIs_int s' k t) noFill_tup_mul F.fills_int_mul F.slot_int_rmul repeat_tup F.slot_int_index.lookup
    (call_meets F.slot_int_rmul (typeIs_int s k t) F.entry_int_rmul (F.args_int_rmul_2 _ _) (rmul_tup k t a d1 its.toArray n z1)
      ⟨ho, rfl, ⟨_, ho, rfl⟩, call_meets F.slot_tuple_mul ⟨_, ho, rfl⟩ F.entry_tuple_mul (F.args_tuple_mul_2 _ _) (mul_tup a d1 its.toArray n z1 k t h2 h3 hne' hz') ⟨ho, ?_⟩⟩)
  have e' : List.foldl (fun x1 x2 => x1 ++ x2) #[] (List.replicate k.toNat its.toArray) = (List.replicate k.toNat its).flatten.toArray := e
  rw [e']
  refine ⟨.ref s.heap.objs.size, _, I.laid (t' := s.toks) (fun b o z => Heap.get?_push_of_some _ z) (Nat.le_refl _) ?_, rfl, q _ I.fresh⟩
  exact ⟨by rw [len_rep, Nat.mul_comm]; exact hz, _, r1.rep k.toNat, IsTup.new _ _⟩
theorem call_isinst3 : CallR X (.builtin "isinstance") (fun xs H Q => ∃ x n t b, xs = [x, .ty n] ∧ (TyOf X.K H x t ∨ ∃ a ys, x = .ref a ∧ SqT X.K H a ys ∧ t = .type "tuple") ∧ PySem.W.kitOne X.K t (.type n) = some b ∧ Q (.bl b) H) := by
  intro pins s σ H xs us Q I r h
  obtain ⟨x, n, t, b, rfl, ty, e, q⟩ := h
  obtain ⟨u, w', rfl, rx, ry⟩ := vals2 r
  cases (show w' = Value.type n from ry)
  rcases ty with ty | ⟨a, ys, rfl, hq, rfl⟩
  · exact isinst_ok I rx ty e fun tk => ⟨.bl b, H, I.tok tk, rfl, q⟩
  · cases (show u = Value.ref a from rx)
    obtain ⟨its, _, ⟨o, h1, h2, _⟩, _⟩ := I.tuple hq
    exact PySem.W.kia_one PySem.W.kitx_tuple I.kIn ⟨o, h1, h2⟩ e (fun z => nomatch z) fun tk => ⟨.bl b, H, I.tok tk, rfl, q⟩
end
end L2
namespace DL
open PySem PySem.Spec L2
section
variable {X : Cx} {K : PySem.W.Frag} {mg : Str → Option Value} {ww : World} {E : XK} {os : List Addr} {H : Hp}
theorem isInt {H : Hp} (i : Int) : IsD K mg ww H (.int i) (.int i) := by rw [IsD]
def intD (f : Int → Int → R D) : D → D → R D
  | .int i, .int j => f i j
  | _, _ => .bad
theorem o_bool0 {g : Int → Int → Bool} : Op2 K mg ww .d (rI0 fun i j => .bl (g i j)) (intD fun i j => .ok (.bl (g i j))) := by
  intro E os H x y d e Q dm hx hy o
  unfold intD at o
  split at o
  · exact ⟨_, _, hx.int, hy.int, o _ H (Same.refl H) rBl⟩
  · exact o.elim
theorem o_intC {C : Int → Int → Prop} {B : Int → Int → Bool} {g : Int → Int → Int} (h : ∀ i j, B i j = true → C i j) : Op2 K mg ww .d (rI C fun i j => .int (g i j)) (intD fun i j => if B i j = true then .ok (.int (g i j)) else .bad) := by
  intro E os H x y d e Q dm hx hy o
  unfold intD at o
  split at o
  · rename_i i j
    dsimp only at o
    split at o
    · rename_i hb
      exact ⟨_, _, hx.int, hy.int, h i j hb, o _ H (Same.refl H) rInt⟩
    · exact o.elim
  · exact o.elim
def bMul (i j : Int) : Bool := decide ((-18446744073709551616 < i ∧ i < 18446744073709551616) ∨ (-18446744073709551616 < j ∧ j < 18446744073709551616))
def bDiv (_ j : Int) : Bool := decide (0 < j ∧ j < 1073741824)
def bMod (_ j : Int) : Bool := decide (0 < j)
def fdivD : D → D → R D := intD fun i j => if bDiv i j = true then .ok (.int (i / j)) else .bad
def modD : D → D → R D := intD fun i j => if bMod i j = true then .ok (.int (i % j)) else .bad
theorem o_fdiv : Op2 K mg ww .d (rI CDiv fun i j => .int (i / j)) fdivD := o_intC fun i j h => of_decide_eq_true (p := 0 < j ∧ j < 1073741824) h
theorem o_mod : Op2 K mg ww .d (rI (fun _ j => 0 < j) fun i j => .int (i % j)) modD := o_intC fun i j h => of_decide_eq_true (p := 0 < j) h
def ltD : D → D → R D := intD fun i j => .ok (.bl (decide (i < j)))
def leD : D → D → R D := intD fun i j => .ok (.bl (decide (i ≤ j)))
def gtD : D → D → R D := intD fun i j => .ok (.bl (decide (i > j)))
theorem o_lt : Op2 K mg ww .d (rI0 fun i j => .bl (decide (i < j))) ltD := o_bool0
theorem o_le : Op2 K mg ww .d (rI0 fun i j => .bl (decide (i ≤ j))) leD := o_bool0
theorem o_gt : Op2 K mg ww .d (rI0 fun i j => .bl (decide (i > j))) gtD := o_bool0
def addD : D → D → R D
  | .int i, .int j => .ok (.int (i + j))
  | .tup a, .tup b => if a.length + b.length ≤ 100000 then .ok (.tup (a ++ b)) else .bad
  | .lst a, .lst b => if a.length + b.length ≤ 100000 then .ok (.lst (a ++ b)) else .bad
  | .str a, .str b => if a.length + b.length ≤ 100000 then .ok (.str (a ++ b)) else .bad
  | _, _ => .bad
def rAddAll (K : PySem.W.Frag) : R2 := fun x y H Q => (rI0 (fun i j => .int (i + j)) x y H Q ∨ rCat x y H Q) ∨
  ((∃ a b xs ys, x = .ref a ∧ y = .ref b ∧ SqT K H a xs ∧ SqT K H b ys ∧ xs.length + ys.length ≤ sizeLine ∧ (ys = [] → Q (.ref a) H) ∧ (xs = [] → Q (.ref b) H) ∧ ∀ p, H p = none → Q (.ref p) (upd H p (.tup (xs ++ ys)))) ∨
    ∃ i j, x = .str i ∧ y = .str j ∧ i.length + j.length ≤ sizeLine ∧ Q (.str (i ++ j)) H)
theorem op_addAll (h : X.K = K := by rfl) : OpR X (binaryOp .Add) (rAddAll K) := h ▸ (op_add.or op_cat).or (op_cat3.or op_add_str)
theorem big5 {n : Nat} (h : n ≤ 100000) : n ≤ sizeLine := Nat.le_trans h (by rw [sizeLine_eq]; decide)
theorem new_d {p : Addr} {ds : List D} {vs : List V} (dm : ∀ a ∈ os, H a ≠ none) (hp : H p = none) (h : IsDs K mg ww (hide os H) ds vs) : IsD K mg ww (hide os (upd H p (.lst vs))) (.lst ds) (.ref p) := Rep.fd (H0 := H) dm (new_f hp h)
theorem new_t {p : Addr} {ds : List D} {vs : List V} (dm : ∀ a ∈ os, H a ≠ none) (hp : H p = none) (h : IsDs K mg ww (hide os H) ds vs) : IsD K mg ww (hide os (upd H p (.tup vs))) (.tup ds) (.ref p) := by
  rw [IsD]
  exact ⟨p, vs, rfl, SqT.of (hide_some.mpr ⟨fun z => dm p z hp, upd_same⟩), IsDs.same (hide_mono (Wv.same_new hp)) _ _ h⟩
theorem o_add : Op2 K mg ww .d (rAddAll K) addD := by
  intro E os H x y d e Q dm hx hy o
  unfold addD at o
  split at o
  · exact .inl (.inl ⟨_, _, hx.int, hy.int, o _ H (Same.refl H) rInt⟩)
  · rename_i a b
    split at o
    · rename_i hl
      obtain ⟨p, xs, rfl, h1, c1, h2⟩ := hx.tup
      obtain ⟨q, ys, rfl, h3, c3, h4⟩ := hy.tup
      refine .inr (.inl ⟨p, q, xs, ys, rfl, rfl, h1, h3, by rw [h2.len, h4.len]; exact big5 hl, fun hy => ?_, fun hx => ?_, fun r hr => o _ _ (Wv.same_new hr) (new_t dm hr (h2.append h4))⟩)
      · refine o _ H (Same.refl H) (show IsD K mg ww _ _ _ from ?_)
        subst hy
        have eb : b = [] := List.length_eq_zero_iff.mp h4.len.symm
        subst eb
        rw [IsD, List.append_nil]
        exact ⟨p, xs, rfl, c1, h2⟩
      · refine o _ H (Same.refl H) (show IsD K mg ww _ _ _ from ?_)
        subst hx
        have eb : a = [] := List.length_eq_zero_iff.mp h2.len.symm
        subst eb
        rw [IsD, List.nil_append]
        exact ⟨q, ys, rfl, c3, h4⟩
    · exact o.elim
  · rename_i a b
    split at o
    · rename_i hl
      obtain ⟨p, xs, rfl, h1, h2⟩ := hx.lst
      obtain ⟨q, ys, rfl, h3, h4⟩ := hy.lst
      exact .inl (.inr ⟨p, q, xs, ys, rfl, rfl, h1, h3, by rw [h2.len, h4.len]; exact big5 hl, fun r hr => o _ _ (Wv.same_new hr) (new_d dm hr (h2.append h4))⟩)
    · exact o.elim
  · rename_i a b
    split at o
    · rename_i hl
      exact .inr (.inr ⟨_, _, hx.str, hy.str, big5 hl, o _ H (Same.refl H) rStr⟩)
    · exact o.elim
  · exact o.elim
def repL {α : Type} (k : Int) (l : List α) : List α := (List.replicate k.toNat l).flatten
theorem IsDs.rep {H : Hp} {ds : List D} {xs : List V} (h : IsDs K mg ww H ds xs) : ∀ n : Nat, IsDs K mg ww H (List.replicate n ds).flatten (List.replicate n xs).flatten
  | 0 => IsDs.nil
  | n + 1 => by
    rw [List.replicate_succ, List.replicate_succ, List.flatten_cons, List.flatten_cons]
    exact h.append (IsDs.rep h n)
def mulD : D → D → R D
  | .int i, .int j => if bMul i j = true then .ok (.int (i * j)) else .bad
  | .tup a, .int k => if a ≠ [] ∧ 2 ≤ k ∧ k ≤ 1000 ∧ a.length ≤ 1000 then .ok (.tup (repL k a)) else .bad
  | .lst a, .int k => if 0 ≤ k ∧ k ≤ 1000 ∧ a.length ≤ 1000 then .ok (.lst (repL k a)) else .bad
  | _, _ => .bad
theorem cmul_of {i j : Int} (h : bMul i j = true) : CMul i j := by
  have z := of_decide_eq_true (p := (-18446744073709551616 < i ∧ i < 18446744073709551616) ∨ (-18446744073709551616 < j ∧ j < 18446744073709551616)) h
  unfold CMul
  omega
def rMulAll (K : PySem.W.Frag) : R2 := fun x y H Q => (rI CMul (fun i j => .int (i * j)) x y H Q ∨ rRep x y H Q) ∨
  (∃ a k xs, x = .ref a ∧ y = .int k ∧ SqT K H a xs ∧ xs ≠ [] ∧ 2 ≤ k ∧ k < 2 ^ 62 ∧ xs.length * k.toNat ≤ sizeLine ∧ ∀ p, H p = none → Q (.ref p) (upd H p (.tup (List.replicate k.toNat xs).flatten)))
theorem op_mulAll (h : X.K = K := by rfl) : OpR X (binaryOp .Mult) (rMulAll K) := h ▸ (op_mul.or op_rep).or op_rep3
theorem mul_big {n : Nat} {k : Int} (h : n ≤ 1000) (hk : k ≤ 1000) : n * k.toNat ≤ sizeLine := by
  have h2 : k.toNat ≤ 1000 := by omega
  have := Nat.mul_le_mul h h2
  exact Nat.le_trans this (by rw [sizeLine_eq]; decide)
theorem o_mul : Op2 K mg ww .d (rMulAll K) mulD := by
  intro E os H x y d e Q dm hx hy o
  unfold mulD at o
  split at o
  · split at o
    · rename_i hb
      exact .inl (.inl ⟨_, _, hx.int, hy.int, cmul_of hb, o _ H (Same.refl H) rInt⟩)
    · exact o.elim
  · rename_i a k
    split at o
    · rename_i hl
      obtain ⟨p, xs, rfl, h1, c1, h2⟩ := hx.tup
      refine .inr ⟨p, k, xs, rfl, hy.int, h1, fun z => hl.1 ?_, hl.2.1, by omega, mul_big (by rw [h2.len]; exact hl.2.2.2) hl.2.2.1, fun r hr => o _ _ (Wv.same_new hr) (new_t dm hr (h2.rep _))⟩
      rw [z] at h2
      exact List.length_eq_zero_iff.mp h2.len.symm
    · exact o.elim
  · rename_i a k
    split at o
    · rename_i hl
      obtain ⟨p, xs, rfl, h1, h2⟩ := hx.lst
      exact .inl (.inr ⟨p, k, xs, rfl, hy.int, h1, by omega, by omega, mul_big (by rw [h2.len]; exact hl.2.2) hl.2.1, fun r hr => o _ _ (Wv.same_new hr) (new_d dm hr (h2.rep _))⟩)
    · exact o.elim
  · exact o.elim
def ixD : D → D → R D
  | .lst l, .int i => match atI l i with
    | some d => .ok d
    | none => .bad
  | .tup l, .int i => match atI l i with
    | some d => .ok d
    | none => .bad
  | .scr ns, .int i => match atI ns i with
    | some n => .ok (.int n)
    | none => .bad
  | .str z, .int i => if z.length ≤ 100000 then match atI z.cps.toList i with
    | some c => .ok (.str ⟨#[c]⟩)
    | none => .bad else .bad
  | _, _ => .bad
theorem atI_map {α β : Type} (f : α → β) (l : List α) (i : Int) : atI (l.map f) i = (atI l i).map f := by
  unfold atI
  rw [List.length_map]
  cases ixN l.length i with
  | none => rfl
  | some j => exact List.getElem?_map ..
theorem IsDs.atI {H : Hp} {ds : List D} {xs : List V} {i : Int} {d : D} (h : IsDs K mg ww H ds xs) (e : L2.atI ds i = some d) : ∃ x, L2.atI xs i = some x ∧ IsD K mg ww H d x := by
  unfold L2.atI at e ⊢
  rw [h.len]
  cases q : ixN ds.length i with
  | none =>
    rw [q] at e
    cases e
  | some j =>
    rw [q] at e
    exact h.atD e
theorem o_ix : Op2 K mg ww .d (rIx K) ixD := by
  intro E os H x y d e Q dm hx hy o
  unfold ixD at o
  split at o
  · rename_i l i
    split at o
    · rename_i d' hd
      obtain ⟨p, xs, rfl, h1, h2⟩ := hx.lst
      obtain ⟨v, z1, z2⟩ := h2.atI hd
      exact .inl ⟨p, xs, i, v, rfl, hy.int, SqL.of h1, z1, o _ H (Same.refl H) z2⟩
    · exact o.elim
  · rename_i l i
    split at o
    · rename_i d' hd
      obtain ⟨p, xs, rfl, h1, _, h2⟩ := hx.tup
      obtain ⟨v, z1, z2⟩ := h2.atI hd
      exact .inr (.inl ⟨p, xs, i, v, rfl, hy.int, h1, z1, o _ H (Same.refl H) z2⟩)
    · exact o.elim
  · rename_i ns i
    split at o
    · rename_i n hd
      have hx' := hx.full
      rw [IsD] at hx'
      obtain ⟨p, rfl, h1⟩ := hx'
      exact .inl ⟨p, _, i, .int n, rfl, hy.int, h1, by rw [atI_map, hd]; rfl, o _ H (Same.refl H) rInt⟩
    · exact o.elim
  · rename_i z i
    split at o
    · rename_i hl
      split at o
      · rename_i c hc
        exact .inr (.inr ⟨z, i, c, hx.str, hy.int, big5 hl, hc, o _ H (Same.refl H) rStr⟩)
      · exact o.elim
    · exact o.elim
  · exact o.elim
theorem ixAll (h : X.K = K := by rfl) : IxR X (rIx K) := h ▸ ix_seq
def cutL {α : Type} (xs : List α) (lo hi : Option Int) : List α := (xs.drop (HT.sIx xs.length 0 lo)).take (HT.sIx xs.length xs.length hi - HT.sIx xs.length 0 lo)
def slD (d : D) (lo hi : Option Int) : R D := match d with
  | .lst l => .ok (.lst (cutL l lo hi))
  | .tup l => .ok (.tup (cutL l lo hi))
  | _ => .bad
end
section
variable {X : Cx} {K : PySem.W.Frag} {mg : Str → Option Value} {ww : World} {E : XK} {ow : List Bool} {md : Md} {a e : Expr} {m ma : Ev → R D} {pos p2 : Pos} {lo hi : Option Expr}
def mNoP : Ev → R (Option Int) := fun _ => .ok none
def asInt : D → R (Option Int)
  | .int i => .ok (some i)
  | _ => .bad
def mPart (m : Ev → R D) : Ev → R (Option Int) := fun ρ => (m ρ).bind asInt
theorem PO.mono' {x : Option Expr} {t t' : TO} (h : PO X x t) (i : ∀ σ H Q, t' σ H Q → t σ H Q) : PO X x t' := fun pins s σ H Q I q => h pins s σ H Q I (i σ H Q q)
def mSl (m : Ev → R D) (ml mh : Ev → R (Option Int)) : Ev → R D := fun ρ => (m ρ).bind fun d => (ml ρ).bind fun l => (mh ρ).bind fun h => slD d l h
variable {ml mh : Ev → R (Option Int)}
def lenD : List D → R D
  | [.lst l] => .ok (.int l.length)
  | [.tup l] => .ok (.int l.length)
  | [.scr l] => .ok (.int l.length)
  | [.str z] => if z.length ≤ 100000 then .ok (.int z.length) else .bad
  | _ => .bad
def rLenAll (K : PySem.W.Frag) : List V → Hp → VK → Prop := fun xs H Q => (∃ p ys, xs = [.ref p] ∧ (SqL K H p ys ∨ SqT K H p ys) ∧ Q (.int ys.length) H) ∨ ∃ z, xs = [.str z] ∧ z.length ≤ sizeLine ∧ Q (.int z.length) H
theorem callLen (h : X.K = K := by rfl) : CallR X (.builtin "len") (rLenAll K) := h ▸ call_len_seq.or call_len_str
theorem pair1 {os : List Addr} {H : Hp} {d : D} {xs : List V} (h : Paired (Rep K mg ww .b H os H) [d] xs) : ∃ x, xs = [x] ∧ Rep K mg ww .b H os H d x := by
  cases h with
  | cons r t =>
    cases t
    exact ⟨_, rfl, r⟩
theorem o_len : OpN K mg ww .d (rLenAll K) lenD := by
  intro E os H xs ds Q dm hp o
  unfold lenD at o
  split at o
  · obtain ⟨x, rfl, hx⟩ := pair1 hp
    obtain ⟨p, ys, rfl, h1, h2⟩ := hx.lst
    exact .inl ⟨p, ys, rfl, .inl (SqL.of h1), by rw [h2.len]; exact o _ H (Same.refl H) rInt⟩
  · obtain ⟨x, rfl, hx⟩ := pair1 hp
    obtain ⟨p, ys, rfl, h1, _, h2⟩ := hx.tup
    exact .inl ⟨p, ys, rfl, .inr h1, by rw [h2.len]; exact o _ H (Same.refl H) rInt⟩
  · obtain ⟨x, rfl, hx⟩ := pair1 hp
    have hx' := hx.full
    rw [IsD] at hx'
    obtain ⟨p, rfl, h1⟩ := hx'
    exact .inl ⟨p, _, rfl, .inl h1, by rw [List.length_map]; exact o _ H (Same.refl H) rInt⟩
  · split at o
    · rename_i hl
      obtain ⟨x, rfl, hx⟩ := pair1 hp
      exact .inr ⟨_, by rw [hx.str], big5 hl, o _ H (Same.refl H) rInt⟩
    · exact o.elim
  · exact o.elim
def tupleD : List D → R D
  | [.lst l] => .ok (.tup l)
  | [.tup l] => .ok (.tup l)
  | _ => .bad
def rTupleAll (K : PySem.W.Frag) : List V → Hp → VK → Prop := fun xs H Q => ∃ p ys, xs = [.ref p] ∧ ((SqL K H p ys ∧ ∀ l, H l = none → Q (.ref l) (upd H l (.tup ys))) ∨ (SqT K H p ys ∧ Q (.ref p) H))
theorem callTuple (h : X.K = K := by rfl) : CallR X (.type "tuple") (rTupleAll K) := h ▸ call_tuple_of
theorem o_tuple : OpN K mg ww .d (rTupleAll K) tupleD := by
  intro E os H xs ds Q dm hp o
  unfold tupleD at o
  split at o
  · obtain ⟨x, rfl, hx⟩ := pair1 hp
    obtain ⟨p, ys, rfl, h1, h2⟩ := hx.lst
    exact ⟨p, ys, rfl, .inl ⟨SqL.of h1, fun l hl => o _ _ (Wv.same_new hl) (new_t dm hl h2)⟩⟩
  · obtain ⟨x, rfl, hx⟩ := pair1 hp
    obtain ⟨p, ys, rfl, h1, c1, h2⟩ := hx.tup
    refine ⟨p, ys, rfl, .inr ⟨h1, o _ H (Same.refl H) (show IsD K mg ww _ _ _ from ?_)⟩⟩
    rw [IsD]
    exact ⟨p, ys, rfl, c1, h2⟩
  · exact o.elim
def listD : List D → R D
  | [.lst l] => .ok (.lst l)
  | [.tup l] => .ok (.lst l)
  | _ => .bad
def rListAll (K : PySem.W.Frag) : List V → Hp → VK → Prop := fun xs H Q => ∃ p ys, xs = [.ref p] ∧ (SqL K H p ys ∨ SqT K H p ys) ∧ ∀ l, H l = none → Q (.ref l) (upd H l (.lst ys))
theorem callList (h : X.K = K := by rfl) : CallR X (.type "list") (rListAll K) := h ▸ call_list_of
theorem o_list : OpN K mg ww .f (rListAll K) listD := by
  intro E os H xs ds Q dm hp o
  unfold listD at o
  split at o
  · obtain ⟨x, rfl, hx⟩ := pair1 hp
    obtain ⟨p, ys, rfl, h1, h2⟩ := hx.lst
    exact ⟨p, ys, rfl, .inl (SqL.of h1), fun l hl => o _ _ (Wv.same_new hl) (new_f hl h2)⟩
  · obtain ⟨x, rfl, hx⟩ := pair1 hp
    obtain ⟨p, ys, rfl, h1, c1, h2⟩ := hx.tup
    exact ⟨p, ys, rfl, .inr h1, fun l hl => o _ _ (Wv.same_new hl) (new_f hl h2)⟩
  · exact o.elim
def intOfD : List D → R D
  | [.int i] => .ok (.int i)
  | [.bl b] => .ok (.int (if b = true then 1 else 0))
  | _ => .bad
def rIntOf : List V → Hp → VK → Prop := fun xs H Q => (∃ i, xs = [.int i] ∧ Q (.int i) H) ∨ ∃ k, xs = [.bl k] ∧ Q (.int (if k then 1 else 0)) H
theorem callInt : CallR X (.type "int") rIntOf := call_int1
theorem o_intOf : OpN K mg ww .d rIntOf intOfD := by
  intro E os H xs ds Q dm hp o
  unfold intOfD at o
  split at o
  · obtain ⟨x, rfl, hx⟩ := pair1 hp
    exact .inl ⟨_, by rw [hx.int], o _ H (Same.refl H) rInt⟩
  · obtain ⟨x, rfl, hx⟩ := pair1 hp
    exact .inr ⟨_, by rw [hx.bl], o _ H (Same.refl H) rInt⟩
  · exact o.elim
def tyS : D → String
  | .non => "NoneType"
  | .bl _ => "bool"
  | .int _ => "int"
  | .str _ => "str"
  | .tup _ => "tuple"
  | .lst _ => "list"
  | _ => "?"
theorem Rep.ty {os : List Addr} {H0 H : Hp} {d : D} {v : V} (h : Rep K mg ww .b H0 os H d v) (hd : tyS d ≠ "?") : TyOf K H v (.type (tyS d)) ∨ ∃ a ys, v = .ref a ∧ SqT K H a ys ∧ (.type (tyS d) : Value) = .type "tuple" := by
  cases d with
  | non => rw [h.non]; exact .inl TyOf.non
  | bl b => rw [h.bl]; exact .inl (TyOf.bl b)
  | int i => rw [h.int]; exact .inl (TyOf.int i)
  | str x => rw [h.str]; exact .inl (TyOf.str x)
  | tup l =>
    obtain ⟨p, xs, rfl, h1, _⟩ := h.tup
    exact .inr ⟨p, xs, rfl, h1, rfl⟩
  | lst l =>
    obtain ⟨p, xs, rfl, h1, _⟩ := h.lst
    exact .inl (TyOf.lst h1)
  | dct ks vs => exact absurd rfl hd
  | exc c => exact absurd rfl hd
  | scr ns => exact absurd rfl hd
def KitOk (K : PySem.W.Frag) (T : String) (f : D → R D) : Prop := ∀ d, f d = .bad ∨ ∃ b, f d = .ok (.bl b) ∧ tyS d ≠ "?" ∧ PySem.W.kitOne K (.type (tyS d)) (.type T) = some b
def isIntD : D → R D
  | .int _ => .ok (.bl true)
  | .bl _ => .ok (.bl true)
  | .non => .ok (.bl false)
  | .str _ => .ok (.bl false)
  | .tup _ => .ok (.bl false)
  | .lst _ => .ok (.bl false)
  | _ => .bad
def isBoolD : D → R D
  | .bl _ => .ok (.bl true)
  | .int _ => .ok (.bl false)
  | .non => .ok (.bl false)
  | .str _ => .ok (.bl false)
  | .tup _ => .ok (.bl false)
  | .lst _ => .ok (.bl false)
  | _ => .bad
def isStrD : D → R D
  | .str _ => .ok (.bl true)
  | .bl _ => .ok (.bl false)
  | .int _ => .ok (.bl false)
  | .non => .ok (.bl false)
  | .tup _ => .ok (.bl false)
  | .lst _ => .ok (.bl false)
  | _ => .bad
def isTupD : D → R D
  | .tup _ => .ok (.bl true)
  | .bl _ => .ok (.bl false)
  | .int _ => .ok (.bl false)
  | .non => .ok (.bl false)
  | .str _ => .ok (.bl false)
  | .lst _ => .ok (.bl false)
  | _ => .bad
theorem kit_int : KitOk K "int" isIntD := fun d => by cases d <;> first | exact .inl rfl | exact .inr ⟨_, rfl, (by simp [tyS]), rfl⟩
theorem kit_bool : KitOk K "bool" isBoolD := fun d => by cases d <;> first | exact .inl rfl | exact .inr ⟨_, rfl, (by simp [tyS]), rfl⟩
theorem kit_str : KitOk K "str" isStrD := fun d => by cases d <;> first | exact .inl rfl | exact .inr ⟨_, rfl, (by simp [tyS]), rfl⟩
theorem kit_tup : KitOk K "tuple" isTupD := fun d => by cases d <;> first | exact .inl rfl | exact .inr ⟨_, rfl, (by simp [tyS]), rfl⟩
def mInst (f : D → R D) (m : Ev → R D) : Ev → R D := fun ρ => (m ρ).bind f
theorem e_inst {T : String} {y : Str} {f : D → R D} {p p' : Pos} (hk : KitOk K T f) (hm : X.mg "isinstance" = none) (hmT : X.mg y = none) (hv : bootBuiltins y = some (.type T)) (ha : PE X a (tE K mg ww .b E ow ma)) (hK : X.K = K := by rfl) (hg : Gl X "isinstance" := by rfl) (hgT : Gl X y := by rfl)
    (hn : y ≠ "__name__" := by decide) (hdb : (y == ("__debug__" : Str)) = false := by decide) (hs1 : starEach [a, .Name y p'] X.env = (false, eval a X.env) :: starEach [.Name y p'] X.env := by rfl) (hs2 : starEach [.Name y p'] X.env = (false, eval (.Name y p') X.env) :: starEach [] X.env := by rfl)
    (hpl : (backTo pos (starEach [.Name y p'] X.env)).any (·.1) = false := by rfl) : PE X (.Call (.Name "isinstance" p) [a, .Name y p'] [] pos) (tE K mg ww .d E ow (mInst f ma)) :=
  (pe_callB call_isinst3 hg hm Wv.bt_isinstance (pa_cons ha (pa_cons (pe_bltn hgT hmT hv (v := .ty T) rfl hn hdb) pa_nil hs2) hs1) (by decide) (by decide) hs1 hpl).mono fun σ H Q ⟨os, ρ, hd, o⟩ => by
    subst hK
    refine ⟨os, ρ, hd, ?_⟩
    have z := out_bind (md' := .b) o
    revert z
    cases ma ρ with
    | ok d =>
      intro z v H1 s1 q1
      obtain ⟨d', e', _, _, z⟩ := z v H1 s1 q1
      cases e'
      rcases hk d with hb | ⟨b, hb, ht, hkk⟩
      · rw [hb] at z
        exact z.elim
      · rw [hb] at z
        exact ⟨v, T, _, b, rfl, q1.ty ht, hkk, z _ H1 (Same.refl H1) rBl⟩
    | rse c => exact fun z => z
    | bad => exact fun z => z
end
mutual
def plain : D → Bool
  | .tup l => plains l
  | .lst l => plains l
  | .dct _ _ => false
  | .exc _ => false
  | .scr _ => false
  | _ => true
def plains : List D → Bool
  | [] => true
  | d :: l => plain d && plains l
end
section
variable {X : Cx} {K : PySem.W.Frag} {mg : Str → Option Value} {ww : World} {H : Hp}
mutual
theorem IsD.toP : ∀ (d : D) (v : V), plain d = true → IsD K mg ww H d v → L2.IsD K H (DL.toP d) v
  | .non, v, _, h => by rw [DL.toP, L2.IsD]; rw [IsD] at h; exact h
  | .bl b, v, _, h => by rw [DL.toP, L2.IsD]; rw [IsD] at h; exact h
  | .int i, v, _, h => by rw [DL.toP, L2.IsD]; rw [IsD] at h; exact h
  | .str x, v, _, h => by rw [DL.toP, L2.IsD]; rw [IsD] at h; exact h
  | .tup l, v, p, h => by
    rw [DL.toP, L2.IsD]
    rw [IsD] at h
    rw [plain] at p
    obtain ⟨a, xs, h1, h2, h3⟩ := h
    exact ⟨a, xs, h1, h2, IsDs.toPs l xs p h3⟩
  | .lst l, v, p, h => by
    rw [DL.toP, L2.IsD]
    rw [IsD] at h
    rw [plain] at p
    obtain ⟨a, xs, h1, h2, h3⟩ := h
    exact ⟨a, xs, h1, SqL.of h2, IsDs.toPs l xs p h3⟩
  | .dct _ _, v, p, h => by rw [plain] at p; cases p
  | .exc _, v, p, h => by rw [plain] at p; cases p
  | .scr _, v, p, h => by rw [plain] at p; cases p
theorem IsDs.toPs : ∀ (ds : List D) (xs : List V), plains ds = true → IsDs K mg ww H ds xs → L2.IsDs K H (DL.toPs ds) xs
  | [], xs, _, h => by
    rw [DL.toPs, L2.IsDs]
    exact h.nil'
  | d :: ds, xs, p, h => by
    rw [plains, Bool.and_eq_true] at p
    obtain ⟨x, r, h1, h2, h3⟩ := h.uncons
    rw [DL.toPs, L2.IsDs]
    exact ⟨x, r, h1, IsD.toP d x p.1 h2, IsDs.toPs ds r p.2 h3⟩
end
def okEq (d e : D) : Bool := plain d && plain e && SeqAt.shaped (toP d) && SeqAt.shaped (toP e)
def eqD (d e : D) : R D := if okEq d e = true then .ok (.bl (PyData.eqv (toP d) (toP e))) else .bad
def neD (d e : D) : R D := if okEq d e = true then .ok (.bl (!PyData.eqv (toP d) (toP e))) else .bad
def rEqD (K : PySem.W.Frag) : R2 := fun x y H Q => ∃ d e, L2.IsD K H d x ∧ L2.IsD K H e y ∧ SeqAt.shaped d = true ∧ SeqAt.shaped e = true ∧ Q (.bl (PyData.eqv d e)) H
def rNeD (K : PySem.W.Frag) : R2 := fun x y H Q => ∃ d e, L2.IsD K H d x ∧ L2.IsD K H e y ∧ SeqAt.shaped d = true ∧ SeqAt.shaped e = true ∧ Q (.bl (!PyData.eqv d e)) H
theorem opEq (hu : X.A.units + 64 < cLine) (h : X.K = K := by rfl) : OpR X (compareOp .Eq) (rEqD K) := h ▸ op_eqD hu
theorem opNe (hu : X.A.units + 64 < cLine) (h : X.K = K := by rfl) : OpR X (compareOp .NotEq) (rNeD K) := h ▸ op_neD hu
theorem o_eq : Op2 K mg ww .d (rEqD K) eqD := by
  intro E os H x y d e Q dm hx hy o
  unfold eqD at o
  split at o
  · rename_i h
    unfold okEq at h
    rw [Bool.and_eq_true, Bool.and_eq_true, Bool.and_eq_true] at h
    exact ⟨_, _, IsD.toP d x h.1.1.1 hx.full, IsD.toP e y h.1.1.2 hy.full, h.1.2, h.2, o _ H (Same.refl H) rBl⟩
  · exact o.elim
theorem o_ne : Op2 K mg ww .d (rNeD K) neD := by
  intro E os H x y d e Q dm hx hy o
  unfold neD at o
  split at o
  · rename_i h
    unfold okEq at h
    rw [Bool.and_eq_true, Bool.and_eq_true, Bool.and_eq_true] at h
    exact ⟨_, _, IsD.toP d x h.1.1.1 hx.full, IsD.toP e y h.1.1.2 hy.full, h.1.2, h.2, o _ H (Same.refl H) rBl⟩
  · exact o.elim
def flatD : D → Bool
  | .non => true
  | .bl _ => true
  | .int _ => true
  | .str _ => true
  | _ => false
def toV : D → V
  | .bl b => .bl b
  | .int i => .int i
  | .str x => .str x
  | _ => .non
def isNonB : D → Option Bool
  | .exc _ => none
  | .scr _ => none
  | .non => some true
  | _ => some false
def isND (d e : D) : R D := match e, isNonB d with
  | .non, some b => .ok (.bl b)
  | _, _ => .bad
def notND (d e : D) : R D := match e, isNonB d with
  | .non, some b => .ok (.bl (!b))
  | _, _ => .bad
theorem non_iff {os : List Addr} {H0 : Hp} {d : D} {x : V} {b : Bool} (h : Rep K mg ww .b H0 os H d x) (hb : isNonB d = some b) : decide (x = .non) = b := by
  cases d with
  | non => cases hb; rw [h.non]; rfl
  | bl b => cases hb; rw [h.bl]; rfl
  | int b => cases hb; rw [h.int]; rfl
  | str b => cases hb; rw [h.str]; rfl
  | tup l =>
    cases hb
    obtain ⟨p, xs, rfl, _⟩ := h.tup
    rfl
  | lst l =>
    cases hb
    obtain ⟨p, xs, rfl, _⟩ := h.lst
    rfl
  | dct ks vs =>
    cases hb
    have := h.full
    rw [IsD] at this
    obtain ⟨a, ys, xs, rfl, _⟩ := this
    rfl
  | exc c => cases hb
  | scr c => cases hb
theorem o_isN : Op2 K mg ww .d (fun x y H Q => y = .non ∧ Q (.bl (decide (x = .non))) H) isND := by
  intro E os H x y d e Q dm hx hy o
  unfold isND at o
  split at o
  · rename_i b hb
    exact ⟨hy.non, by rw [non_iff hx hb]; exact o _ H (Same.refl H) rBl⟩
  · exact o.elim
theorem o_notN : Op2 K mg ww .d (fun x y H Q => y = .non ∧ Q (.bl (!decide (x = .non))) H) notND := by
  intro E os H x y d e Q dm hx hy o
  unfold notND at o
  split at o
  · rename_i b hb
    exact ⟨hy.non, by rw [non_iff hx hb]; exact o _ H (Same.refl H) rBl⟩
  · exact o.elim
def negD : D → R D
  | .int i => .ok (.int (-i))
  | _ => .bad
def mNeg (m : Ev → R D) : Ev → R D := fun ρ => (m ρ).bind negD
end
end DL
namespace DL
open PySem PySem.Spec L2
section
variable {g : D → Ev → R Ev} {mb : Ev → R Fl} {t : Ev → R Bool} {e : Ev → R D}
theorem rangeD_len {lo : Int} {n : Nat} : (rangeD lo n).length = n := by
  unfold rangeD
  rw [List.length_map, List.length_range]
theorem rangeD_get {lo : Int} {n i : Nat} {d : D} (h : (rangeD lo n)[i]? = some d) : i < n ∧ d = .int (lo + (i : Nat)) := by
  unfold rangeD at h
  rw [List.getElem?_map] at h
  cases q : (List.range n)[i]? with
  | none =>
    rw [q] at h
    cases h
  | some k =>
    rw [q] at h
    have hi := (List.getElem?_eq_some_iff.mp q).1
    rw [List.length_range] at hi
    rw [List.getElem?_range hi] at q
    cases q
    cases h
    exact ⟨hi, rfl⟩
theorem lcD_map {ρ : Ev} {ρ1 : D → Ev} {f : D → D} : ∀ {items : List D}, (∀ d ∈ items, g d ρ = .ok (ρ1 d) ∧ t (ρ1 d) = .ok true ∧ e (ρ1 d) = .ok (f d)) → lcD g t e ρ items = .ok (items.map f)
  | [], _ => rfl
  | d :: ds, h => by
    obtain ⟨h1, h2, h3⟩ := h d List.mem_cons_self
    have ih := lcD_map (items := ds) fun x hx => h x (List.mem_cons_of_mem _ hx)
    rw [lcD, h1, R.ok_bind, h2]
    show (if true = true then (nr (e (ρ1 d))).bind fun x => (lcD g t e ρ ds).bind fun xs => .ok (x :: xs) else lcD g t e ρ ds) = _
    rw [if_pos rfl, h3, ih]
    rfl
end
def rowD (r : List Int) : D := .tup (r.map D.int)
def clD (rows : List (List Int)) : D := .tup (rows.map rowD)
theorem atI_nn {α : Type} {l : List α} {i : Int} {v : α} (h0 : 0 ≤ i) (h : l[i.toNat]? = some v) : atI l i = some v := Wv.atI_at h0 h
def spLaw (K : PySem.W.Frag) : Sp := fun vs H Q _ => ∃ (a : Addr) (ns : List Int), vs = [.ref a] ∧ SqL K H a (ns.map V.int) ∧ ns.length ≤ 63 ∧ ∀ H', Q (.bl true) H'
theorem law_imp {K : PySem.W.Frag} {mg : Str → Option Value} {ww : World} {f : List D → R D} (h : ∀ ns : List Int, ns.length ≤ 63 → f [.scr ns] = .ok (.bl true)) : ∀ vs H Q E, spLaw K vs H Q E → spD K mg ww 1 f vs H Q E := by
  rintro vs H Q E ⟨a, ns, rfl, hS, hl, q⟩
  refine ⟨rfl, [], [.scr ns], fun a z => (nomatch z), IsDs.cons ?_ IsDs.nil, ?_⟩
  · rw [IsD]
    exact ⟨a, rfl, hide_nil.seq hS⟩
  · rw [h ns hl]
    intro v H' s z
    rw [z.blD]
    exact q H'
end DL
namespace DL
open PySem PySem.Spec L2
section
variable {ρ : Ev} {ma mb mc m : Ev → R D} {ms : Ev → R (List D)} {f : D → D → R D} {x y z d : D} {ds : List D} {i : Nat} {r : R Fl} {k k1 k2 : Ev → R Fl} {t ta tb : Ev → R Bool} {b : Bool}
theorem v_c : mC d ρ = .ok d := rfl
theorem v_var (h : ρ[i]? = some (some d)) : mV i ρ = .ok d := by
  unfold mV
  rw [h]
theorem v_2 (h1 : ma ρ = .ok x) (h2 : mb ρ = .ok y) (h3 : f x y = .ok z) : m2 ma mb f ρ = .ok z := by
  unfold m2
  rw [h1, R.ok_bind, h2, R.ok_bind, h3]
theorem v_fn {f : List D → R D} (h1 : ms ρ = .ok ds) (h2 : f ds = .ok z) : mFn f ms ρ = .ok z := by
  unfold mFn
  rw [h1, R.ok_bind, h2]
theorem v_nil : mNil ρ = .ok [] := rfl
theorem v_cons (h1 : m ρ = .ok x) (h2 : ms ρ = .ok ds) : mCons m ms ρ = .ok (x :: ds) := by
  unfold mCons
  rw [h1, R.ok_bind, h2, R.ok_bind]
theorem v_tup (h1 : ms ρ = .ok ds) (h2 : ds.length ≤ 1000) : mTup ms ρ = .ok (.tup ds) := by
  unfold mTup
  rw [h1, R.ok_bind, if_pos h2]
theorem v_lst (h1 : ms ρ = .ok ds) (h2 : ds.length ≤ 1000) : mLst ms ρ = .ok (.lst ds) := by
  unfold mLst
  rw [h1, R.ok_bind, if_pos h2]
theorem v_inst {f : D → R D} (h1 : m ρ = .ok x) (h2 : f x = .ok z) : mInst f m ρ = .ok z := by
  unfold mInst
  rw [h1, R.ok_bind, h2]
theorem v_neg {n : Int} (h1 : m ρ = .ok (.int n)) : mNeg m ρ = .ok (.int (-n)) := by
  unfold mNeg
  rw [h1]
  rfl
theorem v_not (h1 : m ρ = .ok (.bl b)) : mNot m ρ = .ok (.bl (!b)) := by
  unfold mNot
  rw [h1]
  rfl
theorem v_notb {c : Bool} (h1 : m ρ = .ok (.bl b)) (e : (!b) = c) : mNot m ρ = .ok (.bl c) := by rw [v_not h1, e]
theorem v_and_t (h1 : ma ρ = .ok (.bl true)) (h2 : mb ρ = .ok x) : mAnd ma mb ρ = .ok x := by
  unfold mAnd
  rw [h1]
  exact h2
theorem v_and_f (h1 : ma ρ = .ok (.bl false)) : mAnd ma mb ρ = .ok (.bl false) := by
  unfold mAnd
  rw [h1]
  rfl
theorem v_and {b c : Bool} (h1 : ma ρ = .ok (.bl b)) (h2 : b = true → mb ρ = .ok (.bl c)) : mAnd ma mb ρ = .ok (.bl (b && c)) := by
  cases b with
  | true => exact v_and_t h1 (h2 rfl)
  | false => exact v_and_f h1
theorem v_chain {g : D → D → R D} {w : D} {b : Bool} {c : Bool} (h1 : ma ρ = .ok x) (h2 : mb ρ = .ok y) (h3 : f x y = .ok (.bl b)) (h4 : b = true → mc ρ = .ok w) (h5 : b = true → g y w = .ok (.bl c)) : mChain ma mb mc f g ρ = .ok (.bl (b && c)) := by
  unfold mChain
  rw [h1, R.ok_bind, h2, R.ok_bind, h3, R.ok_bind]
  cases b with
  | true =>
    show ((mc ρ).bind fun w => g y w) = _
    rw [h4 rfl, R.ok_bind, h5 rfl]
    rfl
  | false => rfl
theorem v_sl {lo hi : Option Int} {ml mh : Ev → R (Option Int)} (h1 : m ρ = .ok x) (h2 : ml ρ = .ok lo) (h3 : mh ρ = .ok hi) (h4 : slD x lo hi = .ok z) : mSl m ml mh ρ = .ok z := by
  unfold mSl
  rw [h1, R.ok_bind, h2, R.ok_bind, h3, R.ok_bind, h4]
theorem v_noP : mNoP ρ = .ok none := rfl
theorem v_part {n : Int} (h : m ρ = .ok (.int n)) : mPart m ρ = .ok (some n) := by
  unfold mPart
  rw [h]
  rfl
theorem v_tst (h : m ρ = .ok (.bl b)) : mTst m ρ = .ok b := by
  unfold mTst
  rw [h]
  rfl
theorem v_tru (h : m ρ = .ok x) (h2 : truD x = .ok b) : mTru m ρ = .ok b := by
  unfold mTru
  rw [h, R.ok_bind, h2]
theorem v_tn (h : t ρ = .ok b) : mTn t ρ = .ok (!b) := by
  unfold mTn
  rw [h]
  rfl
theorem v_tand {c : Bool} (h1 : ta ρ = .ok b) (h2 : b = true → tb ρ = .ok c) : mTand ta tb ρ = .ok (b && c) := by
  unfold mTand
  rw [h1]
  cases b with
  | true => exact h2 rfl
  | false => rfl
theorem v_tor {c : Bool} (h1 : ta ρ = .ok b) (h2 : b = false → tb ρ = .ok c) : mTor ta tb ρ = .ok (b || c) := by
  unfold mTor
  rw [h1]
  cases b with
  | true => rfl
  | false => exact h2 rfl
theorem v_it {g : List D → R (List D)} {es : List D} (h1 : ms ρ = .ok ds) (h2 : g ds = .ok es) : mIt ms g ρ = .ok es := by
  unfold mIt
  rw [h1, R.ok_bind, h2]
theorem v_items (h1 : m ρ = .ok x) (h2 : asItems x = .ok ds) : mItems m ρ = .ok ds := by
  unfold mItems
  rw [h1, R.ok_bind, h2]
theorem v_lc {mi : Ev → R (List D)} {src : List (Option Nat)} {g : D → Ev → R Ev} {e : Ev → R D} {es : List D} (h1 : mi ρ = .ok ds) (hl : ds.length ≤ 100000) (h2 : lcD g t e (src.map (pickD ρ)) ds = .ok es) : mLc mi src g t e ρ = .ok (.lst es) := by
  unfold mLc
  rw [h1, R.ok_bind, if_pos hl, h2]
  rfl
theorem v_eq (h : m ρ = .ok x) (e : x = y) : m ρ = .ok y := by rw [h, e]
theorem v_eqT {b c : Bool} (h : t ρ = .ok b) (e : b = c) : t ρ = .ok c := by rw [h, e]
theorem x_set (h : m ρ = .ok d) (h2 : k (ρ.set i (some d)) = r) : sSeq (sSet i m) k ρ = r := by
  unfold sSeq sSet
  rw [h]
  exact h2
theorem x_ret (h : m ρ = .ok d) : sRet m ρ = .ok (.rt d) := by
  unfold sRet
  rw [h]
  rfl
theorem x_expr (h : m ρ = .ok d) (h2 : k ρ = r) : sSeq (sExpr m) k ρ = r := by
  unfold sSeq sExpr
  rw [h]
  exact h2
theorem x_if_t (h : t ρ = .ok true) (h2 : sSeq k1 k ρ = r) : sSeq (sIf t k1 k2) k ρ = r := by
  unfold sSeq sIf at *
  rw [h]
  exact h2
theorem x_if_f (h : t ρ = .ok false) (h2 : sSeq k2 k ρ = r) : sSeq (sIf t k1 k2) k ρ = r := by
  unfold sSeq sIf at *
  rw [h]
  exact h2
theorem x_if1_t (h : t ρ = .ok true) (h2 : k1 ρ = r) : sIf t k1 k2 ρ = r := by
  unfold sIf
  rw [h]
  exact h2
theorem x_if1_f (h : t ρ = .ok false) (h2 : k2 ρ = r) : sIf t k1 k2 ρ = r := by
  unfold sIf
  rw [h]
  exact h2
theorem x_nil (h : k ρ = r) : sSeq sNil k ρ = r := h
theorem x_seqret (h : m ρ = .ok d) : sSeq (sRet m) k ρ = .ok (.rt d) := by
  unfold sSeq sRet
  rw [h]
  rfl
theorem x_app (hi : ρ[i]? = some (some (.lst ds))) (h : m ρ = .ok d) (hl : ds.length ≤ 100000) (h2 : k (ρ.set i (some (.lst (ds ++ [d])))) = r) : sSeq (sApp i m) k ρ = r := by
  unfold sSeq sApp
  rw [hi]
  dsimp only
  rw [h, R.ok_bind, if_pos hl]
  exact h2
theorem x_app1 (hi : ρ[i]? = some (some (.lst ds))) (h : m ρ = .ok d) (hl : ds.length ≤ 100000) : sApp i m ρ = .ok (.nx (ρ.set i (some (.lst (ds ++ [d]))))) := by
  unfold sApp
  rw [hi]
  dsimp only
  rw [h, R.ok_bind, if_pos hl]
theorem x_for {mi : Ev → R (List D)} {g : D → Ev → R Ev} {mb : Ev → R Fl} {ρ' : Ev} (h1 : mi ρ = .ok ds) (h2 : forD g mb ds ρ = .ok (.nx ρ')) (h3 : k ρ' = r) : sSeq (sFor mi g mb) k ρ = r := by
  unfold sSeq sFor
  rw [h1, R.ok_bind, h2]
  exact h3
theorem x_run {n : Nat} {mb : Ev → R Fl} (h : mb (ds.map some ++ List.replicate (n - ds.length) none) = .ok (.rt d)) : runB n mb ds = .ok d := by
  unfold runB
  rw [h]
end
def Go (r : R Fl) (P : Fl → Prop) : Prop := ∃ f, r = .ok f ∧ P f
section
variable {ρ : Ev} {ma mb mc m : Ev → R D} {ms : Ev → R (List D)} {x y z d : D} {ds : List D} {i : Nat} {k k1 k2 k3 : Ev → R Fl} {t ta tb : Ev → R Bool} {b : Bool} {P : Fl → Prop}
theorem w_run {n : Nat} {mb : Ev → R Fl} (h : Go (mb (ds.map some ++ List.replicate (n - ds.length) none)) fun f => f = .rt d) : runB n mb ds = .ok d := by
  obtain ⟨f, h1, h2⟩ := h
  subst h2
  exact x_run h1
theorem w_runE {n : Nat} {mb : Ev → R Fl} {Pd : D → Prop} (h : Go (mb (ds.map some ++ List.replicate (n - ds.length) none)) fun f => ∃ d, f = .rt d ∧ Pd d) : ∃ d, runB n mb ds = .ok d ∧ Pd d := by
  obtain ⟨f, h1, d, rfl, h2⟩ := h
  exact ⟨d, x_run h1, h2⟩
theorem w_set (h : m ρ = .ok d) (h2 : Go (k (ρ.set i (some d))) P) : Go (sSeq (sSet i m) k ρ) P := by
  rw [x_set h rfl]
  exact h2
theorem w_ret (h : m ρ = .ok d) (h2 : P (.rt d)) : Go (sRet m ρ) P := ⟨_, x_ret h, h2⟩
theorem w_seqret (h : m ρ = .ok d) (h2 : P (.rt d)) : Go (sSeq (sRet m) k ρ) P := ⟨_, x_seqret h, h2⟩
theorem w_expr (h : m ρ = .ok d) (h2 : Go (k ρ) P) : Go (sSeq (sExpr m) k ρ) P := by
  rw [x_expr h rfl]
  exact h2
theorem w_if (h : t ρ = .ok b) (h1 : b = true → Go (sSeq k1 k ρ) P) (h2 : b = false → Go (sSeq k2 k ρ) P) : Go (sSeq (sIf t k1 k2) k ρ) P := by
  cases b with
  | true => rw [x_if_t h rfl]; exact h1 rfl
  | false => rw [x_if_f h rfl]; exact h2 rfl
theorem w_if1 (h : t ρ = .ok b) (h1 : b = true → Go (k1 ρ) P) (h2 : b = false → Go (k2 ρ) P) : Go (sIf t k1 k2 ρ) P := by
  cases b with
  | true => rw [x_if1_t h rfl]; exact h1 rfl
  | false => rw [x_if1_f h rfl]; exact h2 rfl
theorem w_nil (h : Go (k ρ) P) : Go (sSeq sNil k ρ) P := h
theorem w_nil1 (h : P (.nx ρ)) : Go (sNil ρ) P := ⟨_, rfl, h⟩
theorem w_app (hi : ρ[i]? = some (some (.lst ds))) (h : m ρ = .ok d) (hl : ds.length ≤ 100000) (h2 : Go (k (ρ.set i (some (.lst (ds ++ [d]))))) P) : Go (sSeq (sApp i m) k ρ) P := by
  rw [x_app hi h hl rfl]
  exact h2
theorem w_app1 (hi : ρ[i]? = some (some (.lst ds))) (h : m ρ = .ok d) (hl : ds.length ≤ 100000) (h2 : P (.nx (ρ.set i (some (.lst (ds ++ [d])))))) : Go (sApp i m ρ) P := ⟨_, x_app1 hi h hl, h2⟩
theorem w_forD {g : D → Ev → R Ev} {mb : Ev → R Fl} (I : Nat → Ev → Prop) : ∀ (items : List D) (ρ : Ev) (i0 : Nat), I i0 ρ →
    (∀ i d ρ, items[i]? = some d → I (i0 + i) ρ → ∃ ρ1, g d ρ = .ok ρ1 ∧ Go (mb ρ1) fun f => ∃ ρ2, (f = .nx ρ2 ∨ f = .ct ρ2) ∧ I (i0 + i + 1) ρ2) → ∃ ρ', forD g mb items ρ = .ok (.nx ρ') ∧ I (i0 + items.length) ρ'
  | [], ρ, i0, h, _ => ⟨ρ, rfl, h⟩
  | d :: ds, ρ, i0, h, st => by
    obtain ⟨ρ1, h1, f, h2, ρ2, hf, h3⟩ := st 0 d ρ rfl h
    obtain ⟨ρ', h4, h5⟩ := w_forD I ds ρ2 (i0 + 1) h3 fun i d' ρ3 q z => by
      have e1 : i0 + 1 + i = i0 + (i + 1) := by omega
      rw [e1] at z ⊢
      exact st (i + 1) d' ρ3 (by simpa using q) z
    refine ⟨ρ', ?_, ?_⟩
    · rw [forD, h1]
      show (R.ok ρ1).bind _ = _
      rw [R.ok_bind, h2, R.ok_bind]
      rcases hf with rfl | rfl
      · exact h4
      · exact h4
    · rw [List.length_cons]
      have e2 : i0 + 1 + ds.length = i0 + (ds.length + 1) := by omega
      rw [← e2]
      exact h5
theorem w_for {mi : Ev → R (List D)} {g : D → Ev → R Ev} {mb : Ev → R Fl} (I : Nat → Ev → Prop) (h1 : mi ρ = .ok ds) (h0 : I 0 ρ) (st : ∀ i d ρ, ds[i]? = some d → I i ρ → ∃ ρ1, g d ρ = .ok ρ1 ∧ Go (mb ρ1) fun f => ∃ ρ2, (f = .nx ρ2 ∨ f = .ct ρ2) ∧ I (i + 1) ρ2)
    (h3 : ∀ ρ', I ds.length ρ' → Go (k ρ') P) : Go (sSeq (sFor mi g mb) k ρ) P := by
  obtain ⟨ρ', e1, e2⟩ := w_forD I ds ρ 0 h0 fun i d ρ q z => by
    rw [Nat.zero_add] at z ⊢
    exact st i d ρ q z
  rw [Nat.zero_add] at e2
  rw [x_for h1 e1 rfl]
  exact h3 ρ' e2
theorem w_for1 {mi : Ev → R (List D)} {g : D → Ev → R Ev} {mb : Ev → R Fl} (I : Nat → Ev → Prop) (h1 : mi ρ = .ok ds) (h0 : I 0 ρ) (st : ∀ i d ρ, ds[i]? = some d → I i ρ → ∃ ρ1, g d ρ = .ok ρ1 ∧ Go (mb ρ1) fun f => ∃ ρ2, (f = .nx ρ2 ∨ f = .ct ρ2) ∧ I (i + 1) ρ2)
    (h3 : ∀ ρ', I ds.length ρ' → P (.nx ρ')) : Go (sFor mi g mb ρ) P := by
  obtain ⟨ρ', e1, e2⟩ := w_forD I ds ρ 0 h0 fun i d ρ q z => by
    rw [Nat.zero_add] at z ⊢
    exact st i d ρ q z
  rw [Nat.zero_add] at e2
  refine ⟨_, ?_, h3 ρ' e2⟩
  unfold sFor
  rw [h1, R.ok_bind, e1]
end
theorem l_mulL {i j : Int} (h1 : -18446744073709551616 < i) (h2 : i < 18446744073709551616) : mulD (.int i) (.int j) = .ok (.int (i * j)) := if_pos (decide_eq_true (.inl ⟨h1, h2⟩))
theorem l_mulR {i j : Int} (h1 : -18446744073709551616 < j) (h2 : j < 18446744073709551616) : mulD (.int i) (.int j) = .ok (.int (i * j)) := if_pos (decide_eq_true (.inr ⟨h1, h2⟩))
theorem l_mod {i j : Int} (h : 0 < j) : modD (.int i) (.int j) = .ok (.int (i % j)) := if_pos (decide_eq_true h)
theorem l_fdiv {i j : Int} (h : 0 < j ∧ j < 1073741824) : fdivD (.int i) (.int j) = .ok (.int (i / j)) := if_pos (decide_eq_true h)
theorem l_eqI (i j : Int) : eqD (.int i) (.int j) = .ok (.bl (decide (i = j))) := by
  unfold eqD
  rw [if_pos (show okEq (.int i) (.int j) = true from rfl)]
  simp only [toP, PyData.eqv]
  congr 2
theorem l_ixT {l : List D} {i : Int} {d : D} (h : atI l i = some d) : ixD (.tup l) (.int i) = .ok d := by
  unfold ixD
  dsimp only
  rw [h]
theorem l_ixL {l : List D} {i : Int} {d : D} (h : atI l i = some d) : ixD (.lst l) (.int i) = .ok d := by
  unfold ixD
  dsimp only
  rw [h]
theorem l_ix0 {x : D} {l : List D} : ixD (.tup (x :: l)) (.int 0) = .ok x := l_ixT (atI_nat (j := 0) rfl)
theorem l_ran1 {n : Int} (h : n ≤ 100000) (h0 : -100000 ≤ n) : ran1 [.int n] = .ok (rangeD 0 n.toNat) := if_pos ⟨h, h0⟩
def fit : Nat → D → Bool
  | _, .non => true
  | _, .bl _ => true
  | _, .int _ => true
  | _, .str x => PyData.strOk x
  | n + 1, .tup l => l.all (fit n)
  | n + 1, .lst l => l.all (fit n)
  | _, _ => false
theorem fits {n : Nat} (ih : ∀ d, fit n d = true → plain d = true ∧ (toP d).canLay0 = true ∧ (toP d).depth ≤ n) : ∀ l : List D, l.all (fit n) = true → plains l = true ∧ PyData.canLayAll0 (toPs l) = true ∧ PyData.depthAll (toPs l) ≤ n
  | [], _ => by
    rw [plains, toPs, PyData.canLayAll0, PyData.depthAll]
    exact ⟨rfl, rfl, Nat.zero_le _⟩
  | d :: l, h => by
    rw [List.all_cons, Bool.and_eq_true] at h
    obtain ⟨a1, a2, a3⟩ := ih d h.1
    obtain ⟨b1, b2, b3⟩ := fits ih l h.2
    rw [plains, toPs, PyData.canLayAll0, PyData.depthAll, a1, a2, b1, b2]
    exact ⟨rfl, rfl, by omega⟩
theorem fit_of : ∀ (n : Nat) (d : D), fit n d = true → plain d = true ∧ (toP d).canLay0 = true ∧ (toP d).depth ≤ n
  | n, .non, _ => by rw [plain.eq_def, toP, PyData.canLay0, PyData.depth]; exact ⟨rfl, rfl, Nat.zero_le _⟩
  | n, .bl b, _ => by rw [plain.eq_def, toP, PyData.canLay0, PyData.depth]; exact ⟨rfl, rfl, Nat.zero_le _⟩
  | n, .int i, _ => by rw [plain.eq_def, toP, PyData.canLay0, PyData.depth]; exact ⟨rfl, rfl, Nat.zero_le _⟩
  | n, .str x, h => by
    rw [plain.eq_def, toP, PyData.canLay0, PyData.depth]
    refine ⟨rfl, ?_, Nat.zero_le _⟩
    cases n <;> exact h
  | 0, .tup l, h => by cases h
  | 0, .lst l, h => by cases h
  | n + 1, .tup l, h => by
    obtain ⟨a1, a2, a3⟩ := fits (fit_of n) l h
    rw [plain.eq_def, toP, PyData.canLay0, PyData.depth]
    exact ⟨a1, a2, Nat.succ_le_succ a3⟩
  | n + 1, .lst l, h => by
    obtain ⟨a1, a2, a3⟩ := fits (fit_of n) l h
    rw [plain.eq_def, toP, PyData.canLay0, PyData.depth]
    exact ⟨a1, a2, Nat.succ_le_succ a3⟩
  | 0, .dct _ _, h => by cases h
  | n + 1, .dct _ _, h => by cases h
  | 0, .exc _, h => by cases h
  | n + 1, .exc _, h => by cases h
  | 0, .scr _, h => by cases h
  | n + 1, .scr _, h => by cases h
theorem fit_shaped {d : D} (h : fit 8 d = true) : SeqAt.shaped (toP d) = true := by
  obtain ⟨_, a2, a3⟩ := fit_of 8 d h
  unfold SeqAt.shaped
  rw [a2, Bool.true_and]
  exact decide_eq_true (by omega)
def eqvD (d e : D) : Bool := PyData.eqv (toP d) (toP e)
theorem l_eq {d e : D} (h1 : fit 8 d = true) (h2 : fit 8 e = true) : eqD d e = .ok (.bl (eqvD d e)) := by
  unfold eqD okEq
  rw [fit_shaped h1, fit_shaped h2, (fit_of 8 d h1).1, (fit_of 8 e h2).1]
  rfl
theorem l_ne {d e : D} (h1 : fit 8 d = true) (h2 : fit 8 e = true) : neD d e = .ok (.bl (!eqvD d e)) := by
  unfold neD okEq
  rw [fit_shaped h1, fit_shaped h2, (fit_of 8 d h1).1, (fit_of 8 e h2).1]
  rfl
mutual
theorem eqv_self : ∀ d : PyData, d.canLay0 = true → PyData.eqv d d = true
  | .none, _ => by rw [PyData.eqv]
  | .bool b, _ => by rw [PyData.eqv]; exact beq_self_eq_true b
  | .int i, _ => by rw [PyData.eqv]; exact beq_self_eq_true i
  | .str x, _ => by rw [PyData.eqv]; exact beq_self_eq_true x
  | .tuple l, h => by rw [PyData.canLay0] at h; rw [PyData.eqv]; exact eqvAll_self l h
  | .list l, h => by rw [PyData.canLay0] at h; rw [PyData.eqv]; exact eqvAll_self l h
  | .dict _, h => by rw [PyData.canLay0] at h; cases h
theorem eqvAll_self : ∀ l : List PyData, PyData.canLayAll0 l = true → PyData.eqvAll l l = true
  | [], _ => by rw [PyData.eqvAll]
  | d :: l, h => by
    rw [PyData.canLayAll0, Bool.and_eq_true] at h
    rw [PyData.eqvAll, eqv_self d h.1, eqvAll_self l h.2]
    rfl
end
theorem eqvD_self {d : D} (h : fit 8 d = true) : eqvD d d = true := eqv_self _ (fit_of 8 d h).2.1
theorem l_eqS {d : D} (h : fit 8 d = true) : eqD d d = .ok (.bl true) := by rw [l_eq h h, eqvD_self h]
theorem fit_mono : ∀ {n k : Nat} {d : D}, fit n d = true → n ≤ k → fit k d = true
  | n, k, .non, _, _ => by cases k <;> rfl
  | n, k, .bl b, _, _ => by cases k <;> rfl
  | n, k, .int b, _, _ => by cases k <;> rfl
  | n, k, .str b, h, _ => by cases n <;> cases k <;> exact h
  | 0, k, .tup l, h, _ => by cases h
  | 0, k, .lst l, h, _ => by cases h
  | n + 1, 0, .tup l, h, hk => by omega
  | n + 1, 0, .lst l, h, hk => by omega
  | n + 1, k + 1, .tup l, h, hk => List.all_eq_true.mpr fun x hx => fit_mono (List.all_eq_true.mp h x hx) (by omega)
  | n + 1, k + 1, .lst l, h, hk => List.all_eq_true.mpr fun x hx => fit_mono (List.all_eq_true.mp h x hx) (by omega)
  | 0, k, .dct _ _, h, _ => by cases h
  | n + 1, k, .dct _ _, h, _ => by cases h
  | 0, k, .exc _, h, _ => by cases h
  | n + 1, k, .exc _, h, _ => by cases h
  | 0, k, .scr _, h, _ => by cases h
  | n + 1, k, .scr _, h, _ => by cases h
theorem l_addL {a b : List D} (h : a.length + b.length ≤ 100000) : addD (.lst a) (.lst b) = .ok (.lst (a ++ b)) := if_pos h
section
variable {ρ : Ev} {mb ms k : Ev → R Fl} {cls : List Str} {n i : Nat} {c : Str} {d : D} {r : R Fl}
end
end DL
namespace L2
open PySem PySem.Spec PyProof.Rows
section
variable {X : Cx}
def rInQ (K : PySem.W.Frag) (neg : Bool) : R2 := fun x y H Q => ∃ d ds, IsD K H d x ∧ (IsD K H (.list ds) y ∨ IsD K H (.tuple ds) y) ∧ d.canLay0 = true ∧ PyData.canLayAll0 ds = true ∧ PyData.depthAll ds ≤ 63 ∧
  Q (.bl (if neg = true then !(ds.any fun e => PyData.eqv e d) else ds.any fun e => PyData.eqv e d)) H
theorem op_notInQ (hu : X.A.units + 64 < cLine) : OpR X (compareOp .NotIn) (rInQ X.K true) := by
  intro pins s σ H x y v u Q I rx ry h
  obtain ⟨d, ds, hd, he, sd, se, le, q⟩ := h
  obtain ⟨as, ra⟩ := IsD.reads I d x v hd rx
  have hm := Nat.min_le_left (PyData.depthAll ds) d.depth
  rcases he with he | he
  · obtain ⟨bs, rb⟩ := IsD.reads I _ y u he ry
    exact SeqAt.notIn_list_reads rb ra se sd (by omega) ⟨.bl _, H, I, rfl, q⟩
  · obtain ⟨bs, rb⟩ := IsD.reads I _ y u he ry
    exact SeqAt.notIn_tuple_reads rb ra se sd (by omega) ⟨.bl _, H, I, rfl, q⟩
end
end L2
namespace DL
open PySem PySem.Spec L2
section
variable {X : Cx} {K : PySem.W.Frag} {mg : Str → Option Value} {ww : World}
def inQ (neg : Bool) (d e : D) : R D := match e with
  | .lst l => if okEq d e = true then .ok (.bl (if neg = true then !(l.any fun y => eqvD y d) else l.any fun y => eqvD y d)) else .bad
  | .tup l => if okEq d e = true then .ok (.bl (if neg = true then !(l.any fun y => eqvD y d) else l.any fun y => eqvD y d)) else .bad
  | _ => .bad
theorem any_toPs (d : D) : ∀ l : List D, ((toPs l).any fun e => PyData.eqv e (toP d)) = l.any fun y => eqvD y d
  | [] => by rw [toPs]; rfl
  | y :: l => by rw [toPs, List.any_cons, List.any_cons, any_toPs d l]; rfl
theorem o_inQ {neg : Bool} : Op2 K mg ww .d (rInQ K neg) (inQ neg) := by
  intro E os H x y d e Q dm hx hy o
  unfold inQ at o
  split at o
  · rename_i l
    split at o
    · rename_i h
      unfold okEq at h
      rw [Bool.and_eq_true, Bool.and_eq_true, Bool.and_eq_true] at h
      have he := IsD.toP (.lst l) y h.1.1.2 hy.full
      have sd := SeqAt.canLay_of_shaped h.1.2
      have se := SeqAt.canLay_of_shaped h.2
      have de := SeqAt.depth_of_shaped h.2
      rw [toP] at he se de
      rw [PyData.canLay0] at se
      rw [PyData.depth] at de
      refine ⟨_, _, IsD.toP d x h.1.1.1 hx.full, .inl he, sd, se, by omega, ?_⟩
      rw [any_toPs]
      exact o _ H (Same.refl H) rBl
    · exact o.elim
  · rename_i l
    split at o
    · rename_i h
      unfold okEq at h
      rw [Bool.and_eq_true, Bool.and_eq_true, Bool.and_eq_true] at h
      have he := IsD.toP (.tup l) y h.1.1.2 hy.full
      have sd := SeqAt.canLay_of_shaped h.1.2
      have se := SeqAt.canLay_of_shaped h.2
      have de := SeqAt.depth_of_shaped h.2
      rw [toP] at he se de
      rw [PyData.canLay0] at se
      rw [PyData.depth] at de
      refine ⟨_, _, IsD.toP d x h.1.1.1 hx.full, .inr he, sd, se, by omega, ?_⟩
      rw [any_toPs]
      exact o _ H (Same.refl H) rBl
    · exact o.elim
  · exact o.elim
theorem opNotInQ (hu : X.A.units + 64 < cLine) (h : X.K = K := by rfl) : OpR X (compareOp .NotIn) (rInQ K true) := h ▸ op_notInQ hu
end
theorem ok_fit {d e : D} (h1 : fit 8 d = true) (h2 : fit 8 e = true) : okEq d e = true := by
  unfold okEq
  rw [fit_shaped h1, fit_shaped h2, (fit_of 8 d h1).1, (fit_of 8 e h2).1]
  rfl
theorem l_notInL {d : D} {l : List D} (h1 : fit 8 d = true) (h2 : fit 8 (.lst l) = true) : inQ true d (.lst l) = .ok (.bl (!(l.any fun y => eqvD y d))) := if_pos (ok_fit h1 h2)
theorem fit_all {n : Nat} {l : List D} (h : ∀ x ∈ l, fit n x = true) : l.all (fit n) = true := List.all_eq_true.mpr h
theorem fit_ints (r : List Int) : ∀ x ∈ r.map D.int, fit 0 x = true := fun x hx => by
  obtain ⟨i, _, rfl⟩ := List.mem_map.mp hx
  rfl
theorem l_neI (i j : Int) : neD (.int i) (.int j) = .ok (.bl (!decide (i = j))) := by
  unfold neD
  rw [if_pos (show okEq (.int i) (.int j) = true from rfl)]
  simp only [toP, PyData.eqv]
  congr 2
end DL
namespace L2
open PySem PySem.Spec PyProof.Rows
section
variable {X : Cx}
end
end L2
namespace DL
open PySem PySem.Spec L2
section
variable {X : Cx} {K : PySem.W.Frag} {mg : Str → Option Value} {ww : World}
end
end DL
namespace L2
open PySem PySem.Spec PyProof.Rows
section
variable {X : Cx}
end
end L2
namespace DL
open PySem PySem.Spec L2
section
variable {X : Cx} {K : PySem.W.Frag} {mg : Str → Option Value} {ww : World} {E : XK} {ow : List Bool} {md : Md} {o e : Expr} {es : List Expr} {m : Ev → R D} {ms : Ev → R (List D)} {name : Str} {apos cpos : Pos} {id : String} {r : V → List V → Hp → VK → Prop} {f : Str → List D → R D}
end
end DL
namespace L2
open PySem PySem.Spec PyProof.Rows
section
variable {X : Cx}
end
end L2
namespace DL
open PySem PySem.Spec L2
section
variable {X : Cx} {K : PySem.W.Frag} {mg : Str → Option Value} {ww : World}
end
end DL
namespace Wv
open PySem
theorem bt_sorted : bootBuiltins "sorted" = some (.builtin "sorted") := by decide +kernel
end Wv
namespace DL
open PySem PySem.Spec L2
section
variable {X : Cx} {K : PySem.W.Frag} {mg : Str → Option Value} {ww : World} {E : XK} {ow : List Bool} {a : Expr} {ms : Ev → R (List D)} {m : Ev → R D} {p p1 p2 p3 p4 p5 p6 p7 pos pos2 : Pos}
theorem last_at {α : Type} {l : List α} {x : α} (h : l.getLast? = some x) : l[l.length - 1]? = some x := by rw [← List.getLast?_eq_getElem?]; exact h
theorem IsDs.dropLast {H : Hp} : ∀ {ds : List D} {xs : List V}, IsDs K mg ww H ds xs → IsDs K mg ww H ds.dropLast xs.dropLast := fun {ds xs} h => by
  rw [List.dropLast_eq_take, List.dropLast_eq_take, h.len]
  exact IsDs.take _ h
def sPop (j i : Nat) : Ev → R Fl := fun ρ => match ρ[i]? with
  | some (some (.lst ds)) => match ds.getLast? with
    | some d => .ok (.nx ((ρ.set i (some (.lst ds.dropLast))).set j (some d)))
    | none => .bad
  | _ => .bad
abbrev popE (x : Str) (p5 p6 p7 : Pos) : Expr := .Call (.Attribute (.Name x p5) "pop" p6) [] [] p7
end
end DL
namespace DL
open PySem PySem.Spec L2
section
variable {ρ : Ev} {k : Ev → R Fl} {P : Fl → Prop} {t : Ev → R Bool} {mb : Ev → R Fl}
def TurnEnd (nxt : Ev → Prop) (k : Ev → R Fl) (P : Fl → Prop) (f : Fl) : Prop := (∃ ρ2, (f = .nx ρ2 ∨ f = .ct ρ2) ∧ nxt ρ2) ∨ (∃ d, f = .rt d ∧ P (.rt d)) ∨ ∃ ρ2, f = .bk ρ2 ∧ Go (k ρ2) P
theorem forD_any {g : D → Ev → R Ev} (I : Nat → Ev → Prop) : ∀ (items : List D) (ρ : Ev) (i0 : Nat), I i0 ρ →
    (∀ i d ρ, items[i]? = some d → I (i0 + i) ρ → ∃ ρ1, g d ρ = .ok ρ1 ∧ Go (mb ρ1) (TurnEnd (I (i0 + i + 1)) k P)) → (∀ ρ', I (i0 + items.length) ρ' → Go (k ρ') P) →
    ∃ f, forD g mb items ρ = .ok f ∧ ((∃ ρ', f = .nx ρ' ∧ Go (k ρ') P) ∨ ∃ d, f = .rt d ∧ P (.rt d))
  | [], ρ, i0, h, _, fin => ⟨.nx ρ, rfl, .inl ⟨ρ, rfl, fin ρ h⟩⟩
  | d :: ds, ρ, i0, h, st, fin => by
    obtain ⟨ρ1, h1, f, h2, hf⟩ := st 0 d ρ rfl h
    have go : ∀ ρ2, I (i0 + 1) ρ2 → ∃ f, forD g mb ds ρ2 = .ok f ∧ ((∃ ρ', f = .nx ρ' ∧ Go (k ρ') P) ∨ ∃ d, f = .rt d ∧ P (.rt d)) := fun ρ2 h3 =>
      forD_any I ds ρ2 (i0 + 1) h3 (fun i d' ρ3 q z => by
        have e1 : i0 + 1 + i = i0 + (i + 1) := by omega
        rw [e1] at z ⊢
        exact st (i + 1) d' ρ3 (by simpa using q) z) fun ρ' z => by
        have e2 : i0 + 1 + ds.length = i0 + (d :: ds).length := by rw [List.length_cons]; omega
        rw [e2] at z
        exact fin ρ' z
    rw [forD, h1]
    show ∃ f, (R.ok ρ1).bind _ = .ok f ∧ _
    rw [R.ok_bind, h2, R.ok_bind]
    rcases hf with ⟨ρ2, rfl | rfl, h3⟩ | ⟨d', rfl, h3⟩ | ⟨ρ2, rfl, h3⟩
    · exact go ρ2 h3
    · exact go ρ2 h3
    · exact ⟨.rt d', rfl, .inr ⟨d', rfl, h3⟩⟩
    · exact ⟨.nx ρ2, rfl, .inl ⟨ρ2, rfl, h3⟩⟩
theorem w_forG {mi : Ev → R (List D)} {g : D → Ev → R Ev} {ds : List D} (I : Nat → Ev → Prop) (h1 : mi ρ = .ok ds) (h0 : I 0 ρ)
    (st : ∀ i d ρ, ds[i]? = some d → I i ρ → ∃ ρ1, g d ρ = .ok ρ1 ∧ Go (mb ρ1) (TurnEnd (I (i + 1)) k P)) (h3 : ∀ ρ', I ds.length ρ' → Go (k ρ') P) : Go (sSeq (sFor mi g mb) k ρ) P := by
  obtain ⟨f, e1, e2⟩ := forD_any (k := k) (P := P) I ds ρ 0 h0 (fun i d ρ q z => by
    rw [Nat.zero_add] at z ⊢
    exact st i d ρ q z) fun ρ' z => by
    rw [Nat.zero_add] at z
    exact h3 ρ' z
  have e3 : sSeq (sFor mi g mb) k ρ = (R.ok f).bind fun f => match f with
    | .nx ρ' => k ρ'
    | f => .ok f := by
    unfold sSeq sFor
    rw [h1, R.ok_bind, e1]
    all_goals (cases f <;> rfl)
  rw [e3]
  rcases e2 with ⟨ρ', rfl, z⟩ | ⟨d, rfl, z⟩
  · exact z
  · exact ⟨_, rfl, z⟩
theorem whileD_any (I : Ev → Prop) (μ : Ev → Nat) (st : ∀ ρ, I ρ → ∃ b, t ρ = .ok b ∧ (b = true → Go (mb ρ) (TurnEnd (fun ρ2 => I ρ2 ∧ μ ρ2 < μ ρ) k P)) ∧ (b = false → Go (k ρ) P)) :
    ∀ (n : Nat) (ρ : Ev), I ρ → μ ρ < n → ∃ f, whileD t mb n ρ = .ok f ∧ ((∃ ρ', f = .nx ρ' ∧ Go (k ρ') P) ∨ ∃ d, f = .rt d ∧ P (.rt d))
  | 0, ρ, _, hn => by cases hn
  | n + 1, ρ, h, hn => by
    obtain ⟨b, h1, h2, h3⟩ := st ρ h
    rw [whileD, h1]
    show ∃ f, (R.ok b).bind _ = .ok f ∧ _
    rw [R.ok_bind]
    cases b with
    | false =>
      rw [if_neg Bool.false_ne_true]
      exact ⟨_, rfl, .inl ⟨ρ, rfl, h3 rfl⟩⟩
    | true =>
      rw [if_pos rfl]
      obtain ⟨f, h4, hf⟩ := h2 rfl
      rw [h4, R.ok_bind]
      rcases hf with ⟨ρ2, rfl | rfl, h5, h6⟩ | ⟨d', rfl, h5⟩ | ⟨ρ2, rfl, h5⟩
      · exact whileD_any I μ st n ρ2 h5 (by omega)
      · exact whileD_any I μ st n ρ2 h5 (by omega)
      · exact ⟨.rt d', rfl, .inr ⟨d', rfl, h5⟩⟩
      · exact ⟨.nx ρ2, rfl, .inl ⟨ρ2, rfl, h5⟩⟩
theorem w_while {n : Nat} (I : Ev → Prop) (μ : Ev → Nat) (h0 : I ρ) (hn : μ ρ < n) (st : ∀ ρ, I ρ → ∃ b, t ρ = .ok b ∧ (b = true → Go (mb ρ) (TurnEnd (fun ρ2 => I ρ2 ∧ μ ρ2 < μ ρ) k P)) ∧ (b = false → Go (k ρ) P)) : Go (sSeq (whileD t mb n) k ρ) P := by
  obtain ⟨f, e1, e2⟩ := whileD_any I μ st n ρ h0 hn
  have e3 : sSeq (whileD t mb n) k ρ = (R.ok f).bind fun f => match f with
    | .nx ρ' => k ρ'
    | f => .ok f := by
    unfold sSeq
    rw [e1]
    all_goals (cases f <;> rfl)
  rw [e3]
  rcases e2 with ⟨ρ', rfl, z⟩ | ⟨d, rfl, z⟩
  · exact z
  · exact ⟨_, rfl, z⟩
end
end DL
namespace L2
open PySem PySem.Spec PyProof.Rows
section
variable {X : Cx}
end
end L2
namespace Wv
open PySem
end Wv
namespace DL
open PySem PySem.Spec L2
section
variable {X : Cx} {K : PySem.W.Frag} {mg : Str → Option Value} {ww : World} {E : XK} {ow : List Bool}
def GTup (K : PySem.W.Frag) (mg : Str → Option Value) (ww : World) (x : Str) (ds : List D) : Prop := ∃ a, mg x = some (.ref a) ∧ ∀ H, IsD K mg ww H (.tup ds) (.ref a)
theorem e_gtup {x : Str} {a : Addr} {ds : List D} {pos : Pos} (hm : X.mg x = some (.ref a)) (hd : ∀ H, IsD K mg ww H (.tup ds) (.ref a)) (hg : Gl X x := by rfl) (hn : (x == ("__debug__" : Str)) = false := by decide) : PE X (.Name x pos) (tE K mg ww .d E ow (mC (.tup ds))) :=
  e_of (pe_glob (v := .ref a) hg hm rfl hn) hd
theorem isDs_flat {H : Hp} : ∀ {ds : List D}, ds.all flatD = true → IsDs K mg ww H ds (ds.map toV)
  | [], _ => IsDs.nil
  | d :: ds, h => by
    rw [List.all_cons, Bool.and_eq_true] at h
    refine IsDs.cons ?_ (isDs_flat h.2)
    have h1 := h.1
    cases d <;> first | (rw [IsD]; rfl) | cases h1
theorem gtup_of {x : Str} {a : Addr} {od : Option Addr} {its : Array Value} {n : Nat} {sl : Array (Option Value)} {ds : List D} (h1 : mg x = some (.ref a)) (h2 : K.lookup a = some ⟨.type "tuple", od, .seq its n, sl⟩) (hf : ds.all flatD = true) (hv : Vals (ds.map toV) its.toList) (hz : its.size ≤ 1000) : GTup K mg ww x ds :=
  ⟨a, h1, fun H => by
    rw [IsD]
    exact ⟨a, ds.map toV, rfl, .inr ⟨_, its, n, h2, rfl, rfl, big5 (by omega), hv⟩, isDs_flat hf⟩⟩
end
end DL
namespace L2
open PySem PySem.Spec PyProof.Rows
section
variable {X : Cx} {body : List Stmt} {n : Str} {np hp pos : Pos} {b₀ : Stmt} {suite : List Stmt} {Ch : Addr} {tb ts : TS}
end
end L2
namespace DL
open PySem PySem.Spec L2
section
variable {X : Cx} {K : PySem.W.Frag} {mg : Str → Option Value} {ww : World} {ow : List Bool} {E : XK} {fro own own' : List Addr} {H H' : Hp} {σ : St} {ρ : Ev}
section
variable {body : List Stmt} {mb : Ev → R Fl} {pos : Pos}
end
end
end DL
namespace L2
open PySem PySem.Spec PyProof.Rows
section
variable {X : Cx} {tg : Expr}
end
section
variable {X : Cx}
end
open AutoSeq1 (wpAny_loadPart')
end L2
namespace DL
open PySem PySem.Spec L2
section
variable {X : Cx} {K : PySem.W.Frag} {mg : Str → Option Value} {ww : World} {E : XK} {ow : List Bool} {os : List Addr} {H : Hp} {tg l : Expr} {m : Ev → R D} {st : Bool}
end
end DL
namespace L2
open PySem PySem.Spec PyProof.Rows
section
variable {X : Cx}
end
end L2
namespace DL
open PySem PySem.Spec L2
section
variable {X : Cx} {K : PySem.W.Frag} {mg : Str → Option Value} {ww : World} {E : XK} {ow : List Bool} {a e : Expr} {m ma : Ev → R D} {ml mh : Ev → R (Option Int)} {pos p2 : Pos} {lo hi : Option Expr}
end
end DL
namespace L2
open PySem PySem.Spec PyProof.Rows PySem.W PySem.Builtin PySem.Builtin.ObjectAttr PySem.Builtin.Getset_descriptor PySem.Calls
section
variable {prog : Program} {w : World} {A : Around} {E : Value → Shared → Prop} {K : Frag} {x C : Addr} {s : Shared}
end
structure ExcK (K : PySem.W.Frag) (C : Addr) : Prop where
  ga : findIn K (.ref C) "__getattribute__" = some (some (.builtin "BaseException.__getattribute__"))
  gr : findIn K (.ref C) "__getattr__" = some none
  ac : findIn K (.ref C) "__class__" = some (some (.builtin "object.__class__"))
  gg : specialIn K (.builtin "object.__class__") "__get__" = some (some (.builtin "getset_descriptor.__get__"))
  tk : takesIn K (.builtin "object.__class__") = some true
  mo : mroIn K C (.type "object") = some true
  be : subIn K (.ref C) (.type "BaseException") = some true
  cl : isClsIn K C = true
section
variable {X : Cx}
end
end L2
namespace DL
open PySem PySem.Spec L2
section
variable {X : Cx} {K : PySem.W.Frag} {mg : Str → Option Value} {ww : World} {ow : List Bool} {E : XK}
end
end DL
namespace L2
open PySem PySem.Spec PyProof.Rows
open AutoSeq1 (wpAny_loadPart')
section
variable {prog : Program} {w : World} {A : Around} {E : Value → Shared → Prop} {s : Shared}
def IsRv (h : Heap) (a l : Addr) (i : Int) : Prop := ∃ o, h.get? a = some o ∧ o.cls = .type "reversed" ∧ o.data = .fields #[.ref l, rawInt i]
theorem IsRv.ty {a l : Addr} {i : Int} (x : IsRv s.heap a l i) : s.TypeIs (.ref a) "reversed" := let ⟨o, ho, hc, _⟩ := x; ⟨o, ho, hc⟩
end
end L2
namespace L2
open PySem PySem.Spec PyProof.Rows
open AutoSeq1 (wpAny_loadPart')
section
variable {prog : Program} {w : World} {A : Around} {E : Value → Shared → Prop} {s : Shared}
end
end L2
namespace L2
open PySem PySem.Spec PyProof.Rows
open AutoSeq1 (wpAny_loadPart')
section
variable {prog : Program} {w : World} {A : Around} {E : Value → Shared → Prop} {s : Shared}
end
end L2
namespace L2
open PySem PySem.Spec PyProof.Rows
open AutoSeq1 (wpAny_loadPart')
section
variable {prog : Program} {w : World} {A : Around} {E : Value → Shared → Prop} {s : Shared}
end
section
variable {X : Cx} {e : Expr} {te : TE} {p p' pos pos' : Pos}
end
end L2
namespace DL
open PySem PySem.Spec L2
section
variable {X : Cx} {K : PySem.W.Frag} {mg : Str → Option Value} {ww : World} {E : XK} {ow : List Bool} {e : Expr} {m : Ev → R D} {p p' pos pos' : Pos}
end
end DL
namespace L2
open PySem PySem.Spec PyProof.Rows
def KeyIn (K : PySem.W.Frag) (H : Hp) (d : PyData) (v : V) : Prop := keyD d = true ∧ d.depth ≤ 8 ∧ (∃ b, v = .ref b) ∧ IsD K H d v
def Dx (K : PySem.W.Frag) (w : World) (H : Hp) (a : Addr) (ys : List (PyData × Addr × Value)) : Prop := H a = some (.ext (DL.DictX w a ys)) ∧ ∀ q ∈ ys, KeyIn K H q.1 (.ref q.2.1)
section
variable {X : Cx} {pins : List (Addr × Obj)} {σ : St} {H : Hp} {s : Shared} {a b : Addr} {ys : List (PyData × Addr × Value)} {k : PyData}
theorem key_is (I : Inv X pins σ H s) (h : KeyIn X.K H k (.ref b)) : (pdKind X.prog X.w).is s.heap k b := by
  obtain ⟨h1, h2, _, h3⟩ := h
  obtain ⟨as, r⟩ := IsD.reads I k (.ref b) (.ref b) h3 rfl
  exact ⟨h1, h2, as, r⟩
theorem dx_of (I : Inv X pins σ H s) (h : Dx X.K X.w H a ys) : ys.length ≤ sizeLine ∧ (a == sysModules) = false ∧ s.heap.DictOfH (pdKind X.prog X.w) a ys := by
  obtain ⟨⟨z, y, o, es, ep, h1, h2, h3, h4, h5⟩, _, _⟩ := (show ObjOk X.prog X.w H s.heap a (.ext (DL.DictX X.w a ys)) from I.hok a _ h.1)
  exact ⟨z, y, o, es, ep, h1, h2, h3, h4, fun q hq => key_is I (h.2 q hq), h5⟩
theorem dx_new {w : World} {h' : Heap} {ys : List (PyData × Addr × Value)} (prog : Program) (z : ys.length ≤ sizeLine) (y : (a == sysModules) = false) (hd : h'.DictOfH (pdKind prog w) a ys) : ObjOk prog w H h' a (.ext (DL.DictX w a ys)) := by
  obtain ⟨o, es, ep, h1, h2, h3, h4, _, h5⟩ := hd
  refine ⟨⟨z, y, o, es, ep, h1, h2, h3, h4, h5⟩, ⟨o, h1⟩, fun g1 g2 hg hk => ?_⟩
  obtain ⟨z, y, o, es, ep, h1, h2, h3, h4, h5⟩ := hg
  exact ⟨z, y, o, es, ep, hk _ h1, h2, h3, h4, h5⟩
theorem room_x {A : Around} (hu : A.units + 64 < cLine) : (pdKind X.prog X.w).room A.in1 := by
  show A.units + 1 + 8 < cLine
  omega
noncomputable def rInX (K : PySem.W.Frag) (w : World) (neg : Bool) : R2 := fun x y H Q => ∃ a ys k, y = .ref a ∧ Dx K w H a ys ∧ KeyIn K H k x ∧ Q (.bl (if neg = true then !(atKey ys k).isSome else (atKey ys k).isSome)) H
theorem op_inX (hu : X.A.units + 64 < cLine) : OpR X (compareOp .In) (rInX X.K X.w false) := by
  intro pins s σ H x y v u Q I rx ry h
  obtain ⟨a, ys, k, rfl, hx, hk, q⟩ := h
  obtain ⟨b, rfl⟩ := hk.2.2.1
  cases rx
  cases ry
  obtain ⟨z, sy, dd⟩ := dx_of I hx
  exact wpAny_in_heap (room_x hu) (key_is I hk) sy dd ⟨.bl _, H, I.tok _, rfl, q⟩
theorem op_notInX (hu : X.A.units + 64 < cLine) : OpR X (compareOp .NotIn) (rInX X.K X.w true) := by
  intro pins s σ H x y v u Q I rx ry h
  obtain ⟨a, ys, k, rfl, hx, hk, q⟩ := h
  obtain ⟨b, rfl⟩ := hk.2.2.1
  cases rx
  cases ry
  obtain ⟨z, sy, dd⟩ := dx_of I hx
  exact wpAny_notIn_heap (room_x hu) (key_is I hk) sy dd ⟨.bl _, H, I.tok _, rfl, q⟩
noncomputable def rGetX (K : PySem.W.Frag) (w : World) : R2 := fun x y H Q => ∃ a ys k p v, x = .ref a ∧ Dx K w H a ys ∧ KeyIn K H k y ∧ atKey ys k = some p ∧ RelV v p.2 ∧ Q v H
theorem ix_dict (hu : X.A.units + 64 < cLine) : IxR X (rGetX X.K X.w) := by
  intro value slice pins s σ H x y v u Q I rx ry h hs
  obtain ⟨a, ys, k, p, z, rfl, hx, hk, hp, rv, q⟩ := h
  obtain ⟨b, rfl⟩ := hk.2.2.1
  cases rx
  cases ry
  obtain ⟨_, sy, dd⟩ := dx_of I hx
  exact tail_any dd.typeIs PySem.F.slot_dict_getitem.lookup (wpAny_getItem_heap (room_x hu) (key_is I hk) dd hp ⟨z, H, I.tok _, rv, q⟩) hs
def tDNewX (w : World) : TE := fun _ H Q => ∀ p, H p = none → Q (.ref p) (upd H p (.ext (DL.DictX w p [])))
theorem Inv.big' (I : Inv X pins σ H s) : sysModules < s.heap.objs.size := by
  have h : mainGlobals < s.heap.objs.size := (I.mod.glob.keeps I.bk).lt
  exact Nat.lt_trans (by decide) h
theorem pe_dnewX {pos : Pos} : PE X (.Dict [] [] pos) (tDNewX X.w) := fun pins s σ H Q I h =>
  wpAny_Dict_empty ⟨.ref s.heap.objs.size, _, I.laid (a := s.heap.objs.size) (o := .ext (DL.DictX X.w s.heap.objs.size [])) (t' := s.toks) (fun _ _ q => Heap.get?_push_of_some _ q) (Nat.le_refl _)
    (dx_new X.prog (Nat.zero_le _) (beq_eq_false_iff_ne.mpr (Ne.symm (Nat.ne_of_lt I.big'))) (Heap.DictOfH.new s.heap)), rfl, h _ (I.hok.fresh (Nat.le_refl _))⟩
noncomputable def rSetX (K : PySem.W.Frag) (w : World) : TSet := fun x y v H Q => ∃ a ys k b, x = .ref a ∧ y = .ref b ∧ Dx K w H a ys ∧ KeyIn K H k y ∧ ys.length < sizeLine ∧ ∀ u, RelV v u → Q (upd H a (.ext (DL.DictX w a (storedH ys k b u))))
theorem length_storedH {ys : List (PyData × Addr × Value)} {k : PyData} {b : Addr} {u : Value} : (storedH ys k b u).length ≤ ys.length + 1 := by
  unfold storedH
  split
  · rw [List.length_map]
    omega
  · rw [List.length_append]
    simp
theorem pset_dict (hu : X.A.units + 64 < cLine) : PSet X (rSetX X.K X.w) := by
  intro pins s σ H o i v ov iv u Q I ro ri rv h
  obtain ⟨a, ys, k, b, rfl, rfl, hx, hk, hl, q⟩ := h
  cases ro
  cases ri
  obtain ⟨z, sy, dd⟩ := dx_of I hx
  refine wpAny_setItem_heap (hsz := z) (room_x hu) (key_is I hk) dd fun h' dd' hs => ⟨_, ?_, q u rv⟩
  obtain ⟨o', es, ep, ho, _⟩ := id dd'
  refine I.write (x := a) (e := a) (by rw [hx.1]; exact True.intro) (.inl rfl) (fun b q hb z => (hs.2 b hb).trans z) ⟨_, ho⟩ (dx_new X.prog ?_ sy dd')
  have := length_storedH (ys := ys) (k := k) (b := b) (u := u)
  omega
end
end L2
namespace DL
open PySem PySem.Spec L2
mutual
theorem plain_key : ∀ d : D, keyD (toP d) = true → plain d = true
  | .non, h => by simp [toP, keyD] at h
  | .bl b, h => by simp [toP, keyD] at h
  | .int i, _ => by rw [plain.eq_def]
  | .str x, _ => by rw [plain.eq_def]
  | .tup l, h => by
    rw [toP, keyD] at h
    rw [plain]
    exact plains_key l h
  | .lst l, h => by simp [toP, keyD] at h
  | .dct _ _, h => by simp [toP, keyD] at h
  | .exc _, h => by simp [toP, keyD] at h
  | .scr _, h => by simp [toP, keyD] at h
theorem plains_key : ∀ l : List D, keyDs (toPs l) = true → plains l = true
  | [], _ => by rw [plains]
  | d :: l, h => by
    rw [toPs, keyDs, Bool.and_eq_true] at h
    rw [plains, plain_key d h.1, plains_key l h.2]
    rfl
end
section
variable {K : PySem.W.Frag} {mg : Str → Option Value} {ww : World} {H Hh : Hp}
theorem okKey_is {d : D} (h : okKey d = true) : ∃ l, d = .tup l ∧ keyD (toP d) = true ∧ (toP d).depth ≤ 8 := by
  cases d with
  | tup l =>
    unfold okKey at h
    rw [Bool.and_eq_true] at h
    have h2 := of_decide_eq_true h.2
    refine ⟨l, rfl, by rw [toP, keyD]; exact h.1, ?_⟩
    rw [toP, PyData.depth]
    omega
  | _ => cases h
theorem okKey_in {d : D} {v : V} (h : okKey d = true) (q : IsD K mg ww H d v) : KeyIn K H (toP d) v := by
  obtain ⟨l, rfl, h1, h2⟩ := okKey_is h
  refine ⟨h1, h2, ?_, IsD.toP _ _ (plain_key _ h1) q⟩
  rw [IsD] at q
  obtain ⟨a, _, e, _⟩ := q
  exact ⟨a, e⟩
theorem eqv_ok {d e : D} (h1 : okKey d = true) (h2 : okKey e = true) : eqvD d e = decide (toP d = toP e) := by
  obtain ⟨_, _, a, _⟩ := okKey_is h1
  obtain ⟨_, _, b, _⟩ := okKey_is h2
  exact eqv_key _ _ a b
theorem keys_in : ∀ {ks : List D} {ys : List (PyData × Addr × Value)}, ys.map (·.1) = toPs ks → ks.all okKey = true → IsDs K mg ww H ks (ys.map fun y => V.ref y.2.1) → ∀ q ∈ ys, KeyIn K H q.1 (.ref q.2.1)
  | ks, [], _, _, _ => fun q hq => nomatch hq
  | [], y :: ys, e, _, _ => by rw [toPs] at e; cases e
  | k :: ks, y :: ys, e, ha, hi => by
    rw [toPs, List.map_cons] at e
    rw [List.all_cons, Bool.and_eq_true] at ha
    rw [List.map_cons] at hi
    obtain ⟨x, r, e2, h1, h2⟩ := hi.uncons
    cases e2
    have e3 := (List.cons.inj e).1
    intro q hq
    rcases List.mem_cons.mp hq with rfl | hq
    · rw [e3]
      exact okKey_in ha.1 h1
    · exact keys_in (List.cons.inj e).2 ha.2 h2 q hq
theorem atKey_cons_pos {y : PyData × Addr × Value} {ys : List (PyData × Addr × Value)} {k : PyData} (h : y.1 = k) : atKey (y :: ys) k = some y.2 := by
  unfold atKey
  rw [List.find?_cons_of_pos (by exact decide_eq_true h)]
  rfl
theorem atKey_cons_neg {y : PyData × Addr × Value} {ys : List (PyData × Addr × Value)} {k : PyData} (h : ¬ y.1 = k) : atKey (y :: ys) k = atKey ys k := by
  unfold atKey
  rw [List.find?_cons_of_neg (by rw [decide_eq_false h]; simp)]
theorem atKey_any {d : D} (hd : okKey d = true) : ∀ {ks : List D} {ys : List (PyData × Addr × Value)}, ys.map (·.1) = toPs ks → ks.all okKey = true → (atKey ys (toP d)).isSome = ks.any fun y => eqvD y d
  | [], [], _, _ => rfl
  | _ :: _, [], e, _ => by rw [toPs] at e; cases e
  | [], _ :: _, e, _ => by rw [toPs] at e; cases e
  | k :: ks, y :: ys, e, ha => by
    rw [toPs, List.map_cons] at e
    rw [List.all_cons, Bool.and_eq_true] at ha
    have e3 := (List.cons.inj e).1
    rw [List.any_cons, eqv_ok ha.1 hd, ← e3]
    by_cases q : y.1 = toP d
    · rw [atKey_cons_pos q, decide_eq_true q]
      rfl
    · rw [atKey_cons_neg q, decide_eq_false q, Bool.false_or]
      exact atKey_any hd (List.cons.inj e).2 ha.2
def getK (d : D) : List D → List D → Option D
  | k :: ks, v :: vs => if eqvD k d = true then some v else getK d ks vs
  | _, _ => none
theorem atKey_get {d r : D} (hd : okKey d = true) : ∀ {ks vs : List D} {ys : List (PyData × Addr × Value)} {xs : List V}, ys.map (·.1) = toPs ks → ks.all okKey = true → Vals xs (ys.map (·.2.2)) → IsDs K mg ww H vs xs → getK d ks vs = some r → ∃ p v, atKey ys (toP d) = some p ∧ RelV v p.2 ∧ IsD K mg ww H r v
  | [], _, _, _, _, _, _, _, g => by simp [getK] at g
  | _ :: _, [], _, _, _, _, _, _, g => by simp [getK] at g
  | _ :: _, _ :: _, [], _, e, _, _, _, _ => by rw [toPs] at e; cases e
  | k :: ks, v :: vs, y :: ys, xs, e, ha, hv, hi, g => by
    rw [toPs, List.map_cons] at e
    rw [List.all_cons, Bool.and_eq_true] at ha
    rw [List.map_cons] at hv
    obtain ⟨x, r', rfl, h1, h2⟩ := hi.uncons
    have e3 := (List.cons.inj e).1
    rw [getK, eqv_ok ha.1 hd, ← e3] at g
    cases hv with
    | cons hv hvs =>
      by_cases q : y.1 = toP d
      · rw [decide_eq_true q, if_pos rfl] at g
        cases g
        exact ⟨y.2, x, atKey_cons_pos q, hv, h1⟩
      · rw [decide_eq_false q, if_neg (by simp)] at g
        rw [atKey_cons_neg q]
        exact atKey_get hd (List.cons.inj e).2 ha.2 hvs h2 g
theorem Rep.dct {H0 H : Hp} {os : List Addr} {ks vs : List D} {v : V} (h : Rep K mg ww .b H0 os H (.dct ks vs) v) : ∃ p ys xs, v = .ref p ∧ DctO ww (H p) p ks ys ∧ IsDs K mg ww (hide os H) ks (ys.map fun y => V.ref y.2.1) ∧ Vals xs (ys.map (·.2.2)) ∧ IsDs K mg ww (hide os H) vs xs := by
  rcases h with h | ⟨a, h1, h2, h3⟩
  · rw [IsD] at h
    obtain ⟨a, ys, xs, rfl, h1, h2⟩ := h
    exact ⟨a, ys, xs, rfl, h1.same hide_le, h2⟩
  · obtain ⟨ys, xs, h4⟩ := h3
    exact ⟨a, ys, xs, h1, h4⟩
def inK (neg : Bool) (d e : D) : R D := match e with
  | .dct ks _ => if okKey d = true then .ok (.bl (if neg = true then !(ks.any fun y => eqvD y d) else ks.any fun y => eqvD y d)) else .bad
  | _ => .bad
theorem o_inK {neg : Bool} : Op2 K mg ww .d (rInX K ww neg) (inK neg) := by
  intro E os H x y d e Q dm hx hy o
  unfold inK at o
  split at o
  · split at o
    · rename_i hk
      obtain ⟨p, ys, xs, rfl, h1, h2, h3, h4⟩ := hy.dct
      refine ⟨p, ys, toP d, rfl, ⟨h1.1, keys_in h1.2.1 h1.2.2 (IsDs.same hide_le _ _ h2)⟩, okKey_in hk hx.full, ?_⟩
      rw [atKey_any hk h1.2.1 h1.2.2]
      exact o _ H (Same.refl H) rBl
    · exact o.elim
  · exact o.elim
def ixK (e d : D) : R D := match e with
  | .dct ks vs => if okKey d = true then (match getK d ks vs with | some r => .ok r | none => .bad) else .bad
  | _ => .bad
theorem o_ixK : Op2 K mg ww .d (rGetX K ww) ixK := by
  intro E os H x y d e Q dm hx hy o
  unfold ixK at o
  split at o
  · split at o
    · rename_i hk
      split at o
      · rename_i r hr
        obtain ⟨p, ys, xs, rfl, h1, h2, h3, h4⟩ := hx.dct
        obtain ⟨p', v, g1, g2, g3⟩ := atKey_get hk h1.2.1 h1.2.2 h3 h4 hr
        exact ⟨p, ys, toP e, p', v, rfl, ⟨h1.1, keys_in h1.2.1 h1.2.2 (IsDs.same hide_le _ _ h2)⟩, okKey_in hk hy.full, g1, g2, o _ H (Same.refl H) g3⟩
      · exact o.elim
    · exact o.elim
  · exact o.elim
end
section
variable {X : Cx} {K : PySem.W.Frag} {mg : Str → Option Value} {ww : World} {E : XK} {ow : List Bool}
theorem opInX (hu : X.A.units + 64 < cLine) (h : X.K = K := by rfl) (hw : X.w = ww := by rfl) : OpR X (compareOp .In) (rInX K ww false) := by
  subst h hw
  exact op_inX hu
theorem opNotInX (hu : X.A.units + 64 < cLine) (h : X.K = K := by rfl) (hw : X.w = ww := by rfl) : OpR X (compareOp .NotIn) (rInX K ww true) := by
  subst h hw
  exact op_notInX hu
theorem ixDict (hu : X.A.units + 64 < cLine) (h : X.K = K := by rfl) (hw : X.w = ww := by rfl) : IxR X (rGetX K ww) := by
  subst h hw
  exact ix_dict hu
theorem e_dct0 {pos : Pos} (hw : X.w = ww := by rfl) : PE X (.Dict [] [] pos) (tE K mg ww .f E ow (mC (.dct [] []))) := pe_dnewX.mono fun σ H Q ⟨os, ρ, hd, o⟩ => by
  subst hw
  intro p hp
  refine o _ _ (Wv.same_new hp) ⟨p, rfl, hp, [], [], ⟨upd_same, rfl, rfl⟩, IsDs.nil, .nil, IsDs.nil⟩
def setV (d v : D) : List D → List D → List D
  | k :: ks, x :: vs => (if eqvD k d = true then v else x) :: setV d v ks vs
  | _, _ => []
def putD (d v : D) (ks vs : List D) : D := if (ks.any fun y => eqvD y d) = true then .dct ks (setV d v ks vs) else .dct (ks ++ [d]) (vs ++ [v])
theorem toPs_append : ∀ a b : List D, toPs (a ++ b) = toPs a ++ toPs b
  | [], b => by rw [toPs]; rfl
  | x :: a, b => by rw [List.cons_append, toPs, toPs, toPs_append a b]; rfl
theorem set_rel {H : Hp} {d v : D} {z : V} {u : Value} (hd : okKey d = true) (hz : IsD K mg ww H v z) (ru : RelV z u) : ∀ {ks vs : List D} {ys : List (PyData × Addr × Value)} {xs : List V}, ys.map (·.1) = toPs ks → ks.all okKey = true → Vals xs (ys.map (·.2.2)) → IsDs K mg ww H vs xs →
    ∃ xs', Vals xs' ((ys.map (putAt (toP d) u)).map (·.2.2)) ∧ IsDs K mg ww H (setV d v ks vs) xs'
  | [], vs, [], xs, _, _, _, _ => ⟨[], .nil, by rw [setV]; exact IsDs.nil; intros; simp_all⟩
  | _ :: _, _, [], _, e, _, _, _ => by rw [toPs] at e; cases e
  | [], _, _ :: _, _, e, _, _, _ => by rw [toPs] at e; cases e
  | k :: ks, vs, y :: ys, xs, e, ha, hv, hi => by
    rw [toPs, List.map_cons] at e
    rw [List.all_cons, Bool.and_eq_true] at ha
    rw [List.map_cons] at hv
    have e3 := (List.cons.inj e).1
    cases hv with
    | @cons x _ xs0 _ hv hvs =>
      cases vs with
      | nil =>
        have := hi.nil'
        cases this
      | cons w vs =>
        obtain ⟨x', r', ex, h1, h2⟩ := hi.uncons
        cases ex
        obtain ⟨xs', g1, g2⟩ := set_rel hd hz ru (List.cons.inj e).2 ha.2 hvs h2
        rw [setV, eqv_ok ha.1 hd, ← e3, List.map_cons, List.map_cons]
        by_cases q : y.1 = toP d
        · rw [decide_eq_true q, if_pos rfl]
          refine ⟨z :: xs', .cons ?_ g1, IsDs.cons hz g2⟩
          rw [putAt, if_pos q]
          exact ru
        · rw [decide_eq_false q, if_neg (by simp)]
          refine ⟨x :: xs', .cons ?_ g1, IsDs.cons h1 g2⟩
          rw [putAt, if_neg q]
          exact hv
theorem refs_putAt {k : PyData} {u : Value} (ys : List (PyData × Addr × Value)) : (ys.map (putAt k u)).map (fun y => V.ref y.2.1) = ys.map fun y => V.ref y.2.1 := by
  rw [List.map_map]
  refine List.map_congr_left fun y _ => ?_
  show V.ref (putAt k u y).2.1 = _
  unfold putAt
  split <;> rfl
theorem put_obj {H : Hp} {a b : Addr} {d v : D} {z : V} {u : Value} {ks vs : List D} {ys : List (PyData × Addr × Value)} {xs : List V} (hd : okKey d = true) (hk : IsD K mg ww H d (.ref b)) (hz : IsD K mg ww H v z) (ru : RelV z u)
    (e : ys.map (·.1) = toPs ks) (ha : ks.all okKey = true) (hi : IsDs K mg ww H ks (ys.map fun y => V.ref y.2.1)) (hv : Vals xs (ys.map (·.2.2))) (hs : IsDs K mg ww H vs xs) : ObjD K mg ww H a (some (.ext (DictX ww a (storedH ys (toP d) b u)))) (putD d v ks vs) := by
  unfold storedH putD
  rw [atKey_any hd e ha]
  by_cases q : (ks.any fun y => eqvD y d) = true
  · rw [if_pos q, if_pos q]
    obtain ⟨xs', g1, g2⟩ := set_rel hd hz ru e ha hv hs
    exact ⟨_, xs', ⟨rfl, by rw [keys_map_putAt]; exact e, ha⟩, by rw [refs_putAt]; exact hi, g1, g2⟩
  · rw [if_neg q, if_neg q]
    refine ⟨_, xs ++ [z], ⟨rfl, ?_, ?_⟩, ?_, ?_, ?_⟩
    · rw [List.map_append, toPs_append, e]
      rfl
    · rw [List.all_append, ha]
      simp [hd]
    · rw [List.map_append]
      exact hi.append (IsDs.cons hk IsDs.nil)
    · rw [List.map_append]
      exact Paired.snoc hv ru
    · exact hs.append (IsDs.cons hz IsDs.nil)
def sPut (i : Nat) (mk mv : Ev → R D) : Ev → R Fl := fun ρ => match ρ[i]? with
  | some (some (.dct ks vs)) => (mv ρ).bind fun v => (mk ρ).bind fun k => if okKey k = true ∧ ks.length ≤ 100000 then .ok (.nx (ρ.set i (some (putD k v ks vs)))) else .bad
  | _ => .bad
theorem toPs_len : ∀ l : List D, (toPs l).length = l.length
  | [] => by rw [toPs]; rfl
  | x :: l => by rw [toPs, List.length_cons, List.length_cons, toPs_len l]
theorem tab_len {ks : List D} {ys : List (PyData × Addr × Value)} (e : ys.map (·.1) = toPs ks) : ys.length = ks.length := by
  have := congrArg List.length e
  rw [List.length_map, toPs_len] at this
  exact this
theorem s_put {i : Nat} {x : Str} {p1 p2 pos : Pos} {e k : Expr} {mk m : Ev → R D} (hu : X.A.units + 64 < cLine) (he : PE X e (tE K mg ww .d E ow m)) (hk : PE X k (tE K mg ww .d E ow mk)) (ho : ow.getD i false = true := by rfl) (hN : X.N[i]? = some x := by rfl) (hv : Vis X.env.scope x := by first | exact Or.inl rfl | exact Or.inr (Or.inl rfl) | exact Or.inr (Or.inr rfl))
    (hd : (x == ("__debug__" : Str)) = false := by decide) (hcd : (x == ("__classdict__" : Str)) = false := by decide) (hK : X.K = K := by rfl) (hw : X.w = ww := by rfl)
    (ha : ∀ v, assign (.Subscript (.Name x p1) k p2) X.env v = (do
      let ov ← holding [v] (eval (.Name x p1) X.env)
      let iv ← holding [v, ov] (eval k X.env)
      standAt p2
      holding [v, ov, iv] (setItem ov iv v)
      release [v, ov, iv] []) := by intro _; rfl)
    (hs : swapsWithSole [.Subscript (.Name x p1) k p2] e pos.line X.env = pure false := by rfl) (hsw : swappedStores [.Subscript (.Name x p1) k p2] e X.env = pure none := by rfl) (h1 : (assignEach [.Subscript (.Name x p1) k p2] X.env).map (·.2) = [assign (.Subscript (.Name x p1) k p2) X.env] := by rfl) :
    PS X (.Assign [.Subscript (.Name x p1) k p2] e pos) (tS K mg ww ow E (sPut i mk m)) := by
  subst hK hw
  refine (ps_asg he (pg_sub (pe_var hN hv hd hcd) hk (pset_dict hu) ha) hs hsw h1).mono fun Dn σ H ⟨fro, own, ρ, h, o⟩ => ?_
  unfold sPut at o
  split at o
  · rename_i ks vs hi
    refine ⟨own ++ fro, ρ, h.hd, ?_⟩
    have z := outS_bind (md := .d) o
    revert z
    cases m ρ with
    | ok d =>
      intro z v H1 s1 q1
      obtain ⟨d', e', _, q, z⟩ := z v H1 s1 q1
      cases e'
      have h1 := h.same s1
      obtain ⟨a, a1, a2, a3⟩ := h1.hd.own i _ ho hi
      refine ⟨.ref a, a1, own ++ fro, ρ, h1.hd, ?_⟩
      have z' := outS_bind (md := .d) z
      revert z'
      cases mk ρ with
      | ok kd =>
        intro z' kv H2 s2 q2
        obtain ⟨d', e', _, _, zz⟩ := z' kv H2 s2 q2
        cases e'
        split at zz
        · rename_i hok
          have h2 := h1.same s2
          obtain ⟨a', b1, b2, ys, xs, b3, b4, b5, b6⟩ := h2.hd.own i _ ho hi
          rw [a1] at b1
          cases b1
          obtain ⟨b, hb⟩ := (okKey_in hok.1 (IsD.same hide_le _ _ q2)).2.2.1
          subst hb
          refine ⟨a, ys, toP kd, b, rfl, rfl, ⟨b3.1, keys_in b3.2.1 b3.2.2 (IsDs.same hide_le _ _ b4)⟩, okKey_in hok.1 (IsD.same hide_le _ _ q2), ?_, fun u ru => ?_⟩
          · rw [tab_len b3.2.1, sizeLine_eq]
            have := hok.2
            omega
          · refine zz own σ _ ⟨fun c o' hb z => ?_, fun c hb => .inl hb⟩ (h2.write ho hi a1 (put_obj hok.1 q2 (IsD.same (hide_mono s2) _ _ q1) ru b3.2.1 b3.2.2 b4 b5 b6))
            rw [upd_ne fun q => hb (by rw [q]; exact h.mine i a _ ho hi a1)]
            exact z
        · exact zz.elim
      | rse c => exact fun z => z
      | bad => exact fun z => z
    | rse c => exact fun z => z
    | bad => exact fun z => z
  · exact o.elim
end
end DL
namespace L2
open PySem PySem.Spec PyProof.Rows
def RawD (h : Heap) (d : Addr) (es : Array DictEntry) (ep : Nat) : Prop := ∃ o, h.get? d = some o ∧ o.ExactDict ∧ o.data = .dict es ep
section
variable {prog : Program} {w : World} {A : Around} {E : Value → Shared → Prop} {s : Shared} {d it : Addr} {es : Array DictEntry} {ep i : Nat}
theorem RawD.ty (h : RawD s.heap d es ep) : s.TypeIs (.ref d) "dict" := let ⟨o, ho, hc, _⟩ := h; ⟨o, ho, hc.1⟩
theorem raw_iter {Q : Value → Shared → Prop} (hd : (d == sysModules) = false) (hm : RawD s.heap d es ep)
    (hQ : Q (.ref s.heap.objs.size) { s with heap := s.heap.push { cls := .type "dict_keyiterator", data := .fields #[.ref d, .int 0 0, .int es.size 0, .int ep 0] } }) : wpAny (model prog w) A (pyIter (.ref d)) Q E s := by
  have hT := hm.ty
  obtain ⟨o, ho, hc, hdat⟩ := hm
  refine wpAny_pyIter_slot hT F.slot_dict_iter (wpAny_call_entry F.slot_dict_iter hT F.entry_dict_iter ?_ (F.args_dict_iter_1 _))
  unfold Builtin.«dict.__iter__» Builtin.Dict.dictSlotNone
  refine wpAny_bind (wpAny_bind (wpAny_notOrdered_dict hT (wpAny_pure ?_)))
  show wpAny _ _ (Builtin.Dict.showsAll d >>= _) _ _ s
  unfold Builtin.Dict.showsAll
  rw [if_neg (by rw [hd]; exact Bool.false_ne_true)]
  refine wpAny_bind (wpAny_pure (wpAny_bind (wpAny_dictEntries ho hdat (wpAny_bind (wpAny_dictEpoch ho hdat ?_)))))
  refine wpAny_bind (wpAny_newObj_type (wpAny_pure ⟨_, rfl, "dict_keyiterator", _, ⟨_, Heap.get?_push_size _ rfl, rfl⟩, F.slot_dict_keyiterator_next.lookup, ?_⟩))
  simpa [rawInt] using hQ
theorem raw_next {Q : Option Value → Shared → Prop} (hit : s.heap.IsKeyIter it d i es.size ep) (hm : RawD s.heap d es ep) (hi : i < es.size)
    (hQ : ∀ h', h'.IsKeyIter it d (i + 1) es.size ep → Heap.SameBut it s.heap h' → Q (some es[i].key) { s with heap := h' }) : wpAny (model prog w) A (pyNext (.ref it)) Q E s := by
  have hTi := hit.typeIs
  obtain ⟨o, ho, hc, hd⟩ := id hit
  obtain ⟨od, hod, hcd, hdd⟩ := id hm
  unfold pyNext
  refine wpAny_bind (wpAny_attempt (wpAny_callSpecial?_slot (name := Str.ofString "__next__") hTi F.slot_dict_keyiterator_next
    (wpAny_call_entry F.slot_dict_keyiterator_next hTi F.entry_dict_keyiterator_next ?_ (F.args_dict_keyiterator_next_1 _))))
  refine wpAny_bind (wpAny_pure (wpAny_bind (wpAny_bind ?_)))
  first | refine wpAny_bind (wpAny_typeNameOfWhole_keyiter hTi (wpAny_pure ?_)) | refine wpAny_bind (wpAny_typeNameOf_keyiter hTi (wpAny_pure ?_))
  refine wpAny_bind (wpAny_fieldsOf ho hd ?_)
  simp only [show Builtin.Dict_items.ownsTuple "dict_keyiterator" = false from by decide, Bool.false_eq_true, if_false]
  show wpAny _ _ (if (Value.ref d == Value.none) = true then _ else _) _ _ s
  rw [if_neg (show ¬ ((Value.ref d == Value.none) = true) from Bool.false_ne_true)]
  refine wpAny_bind (wpAny_pure (wpAny_bind (wpAny_dictEntries hod hdd ?_)))
  rw [if_neg (by simp)]
  refine wpAny_bind (wpAny_pure (wpAny_bind (wpAny_dictEpoch hod hdd ?_)))
  rw [if_neg (by simp)]
  refine wpAny_pure ?_
  simp only [show ¬ ((i : Int) < 0) from by omega, if_false, Int.toNat_natCast, Array.getElem?_eq_getElem hi]
  refine wpAny_bind ?_
  first | refine wpAny_bind (wpAny_typeNameOfWhole_keyiter hTi (wpAny_pure ?_)) | refine wpAny_bind (wpAny_typeNameOf_keyiter hTi (wpAny_pure ?_))
  refine wpAny_bind (wpAny_isOneOf_keyiter hTi ?_)
  show wpAny _ _ (setField (.ref it) 1 (rawInt ((i : Int) + 1)) >>= _) _ _ s
  refine wpAny_bind (wpAny_setField ho hd (by simp) ?_)
  have hit' : (s.heap.update it (Obj.mapFields (·.setIfInBounds 1 (rawInt ((i : Int) + 1))))).IsKeyIter it d (i + 1) es.size ep :=
    ⟨_, Heap.get?_update_self _ ho (Obj.isFreed_of_fields (Obj.data_mapFields hd _)), (Obj.cls_mapFields ..).trans hc, by rw [Obj.data_mapFields hd]; simp [rawInt]⟩
  refine wpAny_bind (wpAny_holding (wpAny_bind (wpAny_isOneOf_keyiter (s := { s with heap := s.heap.update it (Obj.mapFields (·.setIfInBounds 1 (rawInt ((i : Int) + 1)))) }) hit'.typeIs ?_)))
  show wpAny _ _ (pure es[i].key) _ _ _
  exact wpAny_pure (wpAny_pure ⟨_, rfl, wpAny_pure (hQ _ hit' (Heap.SameBut.update ..))⟩)
theorem raw_end {Q : Option Value → Shared → Prop} (hh : A.handled = none) (hit : s.heap.IsKeyIter it d i es.size ep) (hm : RawD s.heap d es ep) (hi : es.size ≤ i)
    (hQ : ∀ h', Heap.ExtBut it s.heap h' → Q none { s with heap := h' }) : wpAny (model prog w) A (pyNext (.ref it)) Q E s := by
  have hTi := hit.typeIs
  obtain ⟨o, ho, hc, hd⟩ := id hit
  obtain ⟨od, hod, hcd, hdd⟩ := id hm
  unfold pyNext
  refine wpAny_bind (wpAny_attempt (wpAny_callSpecial?_slot (name := Str.ofString "__next__") hTi F.slot_dict_keyiterator_next
    (wpAny_call_entry F.slot_dict_keyiterator_next hTi F.entry_dict_keyiterator_next ?_ (F.args_dict_keyiterator_next_1 _))))
  refine wpAny_bind (wpAny_pure (wpAny_bind (wpAny_bind ?_)))
  first | refine wpAny_bind (wpAny_typeNameOfWhole_keyiter hTi (wpAny_pure ?_)) | refine wpAny_bind (wpAny_typeNameOf_keyiter hTi (wpAny_pure ?_))
  refine wpAny_bind (wpAny_fieldsOf ho hd ?_)
  simp only [show Builtin.Dict_items.ownsTuple "dict_keyiterator" = false from by decide, Bool.false_eq_true, if_false]
  show wpAny _ _ (if (Value.ref d == Value.none) = true then _ else _) _ _ s
  rw [if_neg (show ¬ ((Value.ref d == Value.none) = true) from Bool.false_ne_true)]
  refine wpAny_bind (wpAny_pure (wpAny_bind (wpAny_dictEntries hod hdd ?_)))
  rw [if_neg (by simp)]
  refine wpAny_bind (wpAny_pure (wpAny_bind (wpAny_dictEpoch hod hdd ?_)))
  rw [if_neg (by simp)]
  refine wpAny_pure ?_
  simp only [show ¬ ((i : Int) < 0) from by omega, if_false, Int.toNat_natCast, Array.getElem?_eq_none hi]
  refine wpAny_bind ?_
  first | refine wpAny_bind (wpAny_typeNameOfWhole_keyiter hTi (wpAny_pure ?_)) | refine wpAny_bind (wpAny_typeNameOf_keyiter hTi (wpAny_pure ?_))
  show wpAny _ _ (setField (.ref it) 0 .none >>= _) _ _ s
  refine wpAny_bind (wpAny_setField ho hd (by simp) ?_)
  show wpAny _ _ (newExc (.type "StopIteration") [] >>= _) _ _ _
  refine wpAny_bind ?_
  simp only [newExc, newTuple]
  refine wpAny_bind (wpAny_newObj_type ?_ (by size_fits))
  refine wpAny_bind (m := firstArgMember _ _) (wpAny_of_eq (a := Value.none) (by first | rfl | (simp only [firstArgMember]; rfl)) ?_)
  refine wpAny_newObj_type ?_ (by size_fits)
  simp only [raiseNew]
  refine wpAny_bind (wpAny_handled ?_)
  rw [show A.in1.handled = none from hh]
  refine wpAny_bind (wpAny_pure (wpAny_throw ?_))
  refine wpAny_bind (wpAny_isInstance (T := "StopIteration") (b := true) ⟨_, Heap.get?_push_size _ rfl, rfl⟩ isSubtype_stop ?_)
  exact wpAny_pure (hQ _ (((Heap.SameBut.update ..).extBut.push _).push _))
theorem raw_walks (hh : A.handled = none) (I d : Addr) (hne : d ≠ I) (es : Array DictEntry) (ep : Nat) :
    Walks prog w A I [I, d] [I] es.size (fun i v => ∃ e, es[i]? = some e ∧ v = e.key) (fun i h => h.IsKeyIter I d i es.size ep ∧ RawD h d es ep) where
  sub := fun b hb => by simp at hb; simp [hb]
  frame := fun _ _ _ st hk => ⟨st.1.at fun o e => hk I (by simp) o e, let ⟨o, ho, r⟩ := st.2; ⟨o, hk d (by simp) o ho, r⟩⟩
  item := fun i s Q E hi st hQ => raw_next st.1 st.2 hi fun h' hit' hs' =>
    hQ _ h' s.toks ⟨es[i], by simp [hi], rfl⟩ ⟨hit', let ⟨o, ho, r⟩ := st.2; ⟨o, hs'.extBut d o hne ho, r⟩⟩ fun b o hb e => hs'.extBut b o (fun h => hb (by simp [h])) e
  done := fun s Q E st hQ => raw_end hh st.1 st.2 (Nat.le_refl _) fun h' he' => hQ h' s.toks fun b o hb e => he' b o (fun h => hb (by simp [h])) e
  self := fun _ _ _ _ st hQ => wpAny_pyIter_keyiter st.1 hQ
end
section
variable {prog : Program} {w : World} {A : Around} {E : Value → Shared → Prop} {s : Shared} {d : Addr} {es : Array DictEntry} {ep : Nat}
theorem raw_hint {Q : Bool → Shared → Prop} (hm : RawD s.heap d es ep) (h : Q false s) : wpAny (model prog w) A (Builtin.List.listLengthHint (.ref d)) Q E s := by
  unfold Builtin.List.listLengthHint
  refine wpAny_bind (wpAny_specialOf hm.ty F.slot_dict_len.lookup ?_)
  generalize hid : ("dict.__len__" : String) = id0
  wp_delta
  rw [show splitId id0 = some ("dict", "__len__") from by subst hid; decide +kernel]
  subst hid
  refine wpAny_bind (wpAny_isInstance (T := "dict") (b := true) hm.ty (by rw [isSubtype_type]; kernel_rfl) ?_)
  refine wpAny_ite_split (fun hab => absurd hab (by decide)) (fun _ => ?_)
  refine wpAny_ite_split (fun _ => ?_) (fun hab => absurd (by decide +kernel) hab)
  refine wpAny_bind (wpAny_typeOf hm.ty ?_)
  exact wpAny_pure h
theorem raw_extend {R : Result → Shared → Prop} (hh : A.handled = none) (hy : (d == sysModules) = false) (hm : RawD s.heap d es ep) (hlen : es.size ≤ sizeLine) (S : Addr) (res : Value) (c₀ : Nat) (hS : s.heap.get? S = some { cls := .type "list", data := .seq #[] c₀ })
    (hR : ∀ h' tk acc' c', (∀ b o, b ≠ S → s.heap.get? b = some o → h'.get? b = some o) → h'.get? S = some { cls := .type "list", dict := none, data := .seq acc' c', slots := #[] } →
      ItemsOf (fun i v => ∃ e, es[i]? = some e ∧ v = e.key) acc' es.size → R (.ok (.ret res)) { s with heap := h', toks := tk }) :
    wpAny (model prog w) A.in1 (Builtin.List.listExtendWith (.ref S) (.ref d) res)
      (fun fin s' => match fin with | .done f => R (.ok f) s' | .again c' => c'.quiet = true ∧ codeAny (model prog w) A c' R s') (fun e s' => R (.error e) s') s := by
  obtain ⟨od, hod, hcd, hdd⟩ := id hm
  have hSr : S ≠ d := fun e => by
    rw [e, hod] at hS
    cases hS
    cases hdd
  have hSlt : S < s.heap.objs.size := Heap.lt_size hS
  have hdlt : d < s.heap.objs.size := Heap.lt_size hod
  have hSf : S ∉ [s.heap.objs.size, d] := fun hx => by
    simp only [List.mem_cons, List.not_mem_nil, or_false] at hx
    rcases hx with e | e
    · exact Nat.ne_of_lt hSlt e
    · exact hSr e
  have W := (raw_walks (prog := prog) (w := w) (A := A.in1) hh s.heap.objs.size d (Nat.ne_of_lt hdlt) es ep).toS
  unfold Builtin.List.listExtendWith
  refine wpAny_bind (wpAny_typeOf (T := "dict") hm.ty ?_)
  have h1 : Builtin.List.listSameRef (.ref S) (.ref d) = false := by simp [Builtin.List.listSameRef, hSr]
  have h2 : (Value.type "dict" == Value.type "list") = false := by decide
  have h3 : (Value.type "dict" == Value.type "tuple") = false := by decide
  simp only [h1, h2, h3, Bool.or_false, Bool.false_eq_true, if_false]
  refine wpAny_bind (raw_iter hy hm ?_)
  have hm₁ : RawD (s.heap.push { cls := .type "dict_keyiterator", data := .fields #[.ref d, .int 0 0, .int es.size 0, .int ep 0] }) d es ep := ⟨od, Heap.get?_push_of_some _ hod, hcd, hdd⟩
  refine wpAny_bind (wpAny_holding (raw_hint hm₁ ?_))
  have hit₁ : (s.heap.push { cls := .type "dict_keyiterator", data := .fields #[.ref d, .int 0 0, .int es.size 0, .int ep 0] }).IsKeyIter s.heap.objs.size d 0 es.size ep := ⟨_, Heap.get?_push_size _ rfl, rfl, rfl⟩
  have hS₁ := Heap.get?_push_of_some { cls := .type "dict_keyiterator", data := .fields #[.ref d, .int 0 0, .int es.size 0, .int ep 0] } hS
  have hS₂ := Heap.get?_update_self (Obj.mapSeq (·.push Value.none)) hS₁ rfl
  have hS₃ := Heap.get?_update_self (Obj.mapSeq (·.pop)) hS₂ rfl
  refine wpAny_ite_split (fun _ => ?_) (fun hab => absurd (by decide +kernel) hab)
  refine wpAny_bind (wpAny_rule (wpAny_bind ?_))
  show wpAny _ _ (updateSeq S (·.push .none) >>= fun _ => updateSeq S (·.pop)) _ _ _
  refine wpAny_bind (wpAny_updateSeq hS₁ rfl (wpAny_updateSeq (hz := by seq_fits) hS₂ rfl (wpAny_pure ⟨plainId_quiet F.plain_extend_loop _, ?_⟩)))
  have oth : ∀ b o, b ≠ S → (s.heap.push { cls := .type "dict_keyiterator", data := .fields #[.ref d, .int 0 0, .int es.size 0, .int ep 0] }).get? b = some o → (((s.heap.push { cls := .type "dict_keyiterator", data := .fields #[.ref d, .int 0 0, .int es.size 0, .int ep 0] }).update S (Obj.mapSeq (·.push Value.none))).update S (Obj.mapSeq (·.pop))).get? b = some o :=
    fun b o hb e => (Heap.get?_update_other _ _ (Ne.symm hb)).trans ((Heap.get?_update_other _ _ (Ne.symm hb)).trans e)
  have hit₂ : (((s.heap.push { cls := .type "dict_keyiterator", data := .fields #[.ref d, .int 0 0, .int es.size 0, .int ep 0] }).update S (Obj.mapSeq (·.push Value.none))).update S (Obj.mapSeq (·.pop))).IsKeyIter s.heap.objs.size d 0 es.size ep := hit₁.at fun o e => oth _ _ (Ne.symm (Nat.ne_of_lt hSlt)) e
  have hm₂ : RawD (((s.heap.push { cls := .type "dict_keyiterator", data := .fields #[.ref d, .int 0 0, .int es.size 0, .int ep 0] }).update S (Obj.mapSeq (·.push Value.none))).update S (Obj.mapSeq (·.pop))) d es ep := ⟨od, oth _ _ (Ne.symm hSr) (Heap.get?_push_of_some _ hod), hcd, hdd⟩
  refine codeAny_extend_loopS W hlen S hSf res es.size 0 _ #[] _ rfl (Nat.zero_le _) ⟨hit₂, hm₂⟩ hS₃ (ItemsOf.nil _) fun s' acc' c' hmv hS' hacc => ?_
  rw [Moved.eq_with hmv]
  refine hR s'.heap s'.toks acc' c' (fun b o hb e => hmv.heap b o (fun hmem => ?_) (oth b o hb (Heap.get?_push_of_some _ e))) hS' hacc
  rcases List.mem_cons.mp hmem with e' | hmem
  · exact hb e'
  · exact absurd (Heap.lt_size e) (by rw [List.mem_singleton.mp hmem]; exact Nat.lt_irrefl _)
theorem raw_list {Q : Value → Shared → Prop} (hh : A.handled = none) (hy : (d == sysModules) = false) (hm : RawD s.heap d es ep) (hlen : es.size ≤ sizeLine)
    (hQ : ∀ h' tk acc' c', (∀ b o, s.heap.get? b = some o → h'.get? b = some o) → h'.get? s.heap.objs.size = some { cls := .type "list", dict := none, data := .seq acc' c', slots := #[] } →
      ItemsOf (fun i v => ∃ e, es[i]? = some e ∧ v = e.key) acc' es.size → Q (.ref s.heap.objs.size) { s with heap := h', toks := tk }) : wpAny (model prog w) A (call (.type "list") [.ref d]) Q E s := by
  obtain ⟨od, hod, hcd, hdd⟩ := id hm
  refine callType_codes (Q₁ := fun obj s₁ => obj = .ref s.heap.objs.size ∧ s₁ = { s with heap := s.heap.push { cls := .type "list", data := .seq #[] } }) F.called_list (F.typeCall_list_1 _) F.entry_list_init
    (code_list_new _ ⟨rfl, rfl⟩) fun obj s₁ h₁ => ?_
  obtain ⟨rfl, rfl⟩ := h₁
  have hS : (s.heap.push { cls := .type "list", data := .seq #[] }).get? s.heap.objs.size = some { cls := .type "list", data := .seq #[] } := Heap.get?_push_size _ rfl
  refine ⟨⟨_, hS, rfl⟩, F.args_list_init_2 _ _, ?_⟩
  show wpAny _ _ (do let old ← Builtin.List.listItems (.ref s.heap.objs.size); Builtin.List.listUpdate (.ref s.heap.objs.size) (fun _ => #[]); letGo old.toList.reverse; Builtin.List.listExtendWith (.ref s.heap.objs.size) (.ref d) .none) _ _ _
  refine wpAny_bind ?_
  unfold Builtin.List.listItems
  refine wpAny_bind (wpAny_seqItems hS rfl (wpAny_pure ?_))
  show wpAny _ _ (updateSeq s.heap.objs.size (fun _ => #[]) >>= fun _ => letGo (#[] : Array Value).toList.reverse >>= fun _ => Builtin.List.listExtendWith (.ref s.heap.objs.size) (.ref d) .none) _ _ _
  refine wpAny_bind (wpAny_updateSeq hS rfl ?_)
  have hS₂ := Heap.get?_update_self (Obj.mapSeq (fun _ => (#[] : Array Value))) hS rfl
  have oth : ∀ b o, b ≠ s.heap.objs.size → (s.heap.push { cls := .type "list", data := .seq #[] }).get? b = some o → ((s.heap.push { cls := .type "list", data := .seq #[] }).update s.heap.objs.size (Obj.mapSeq (fun _ => (#[] : Array Value)))).get? b = some o :=
    fun b o hb e => (Heap.get?_update_other _ _ (Ne.symm hb)).trans e
  refine wpAny_bind (wpAny_letGo ?_)
  refine raw_extend (A := A.in1) hh hy ⟨od, oth d _ (Nat.ne_of_lt (Heap.lt_size hod)) (Heap.get?_push_of_some _ hod), hcd, hdd⟩ hlen _ .none _ hS₂ fun h' tk acc' c' hk hS' hacc => ?_
  exact ⟨rfl, hQ h' tk acc' c' (fun b o e => hk b o (Nat.ne_of_lt (Heap.lt_size e)) (oth b o (Nat.ne_of_lt (Heap.lt_size e)) (Heap.get?_push_of_some _ e))) hS' hacc⟩
end
end L2
namespace L2
open PySem PySem.Spec PyProof.Rows
section
variable {X : Cx}
theorem keys_vals {w : World} : ∀ {ys : List (PyData × Addr × Value)} {es : List DictEntry} {its : List Value}, es = ys.map (fun x => (⟨hashD w x.1, .ref x.2.1, x.2.2⟩ : DictEntry)) → its = es.map (·.key) → Vals (ys.map fun y => V.ref y.2.1) its
  | [], _, _, e1, e2 => by
    subst e1
    subst e2
    exact .nil
  | y :: ys, _, _, e1, e2 => by
    subst e1
    subst e2
    rw [List.map_cons, List.map_cons, List.map_cons]
    exact .cons rfl (keys_vals rfl rfl)
theorem items_keys {es : Array DictEntry} {acc : Array Value} (h : ItemsOf (fun i v => ∃ e, es[i]? = some e ∧ v = e.key) acc es.size) : acc.toList = es.toList.map (·.key) := by
  refine List.ext_getElem? fun j => ?_
  rw [List.getElem?_map, Array.getElem?_toList, Array.getElem?_toList]
  cases hj : acc[j]? with
  | some v =>
    obtain ⟨e, he, hv⟩ := h.2 j v hj
    rw [he, hv]
    rfl
  | none =>
    have hl : acc.size ≤ j := by
      rcases Nat.lt_or_ge j acc.size with q | q
      · rw [Array.getElem?_eq_getElem q] at hj
        cases hj
      · exact q
    rw [Array.getElem?_eq_none (by rw [← h.1]; exact hl)]
    rfl
theorem dx_raw {pins : List (Addr × Obj)} {σ : St} {H : Hp} {s : Shared} {a : Addr} {ys : List (PyData × Addr × Value)} (I : Inv X pins σ H s) (h : Dx X.K X.w H a ys) :
    ys.length ≤ sizeLine ∧ (a == sysModules) = false ∧ ∃ es ep, RawD s.heap a es ep ∧ es.toList = ys.map (fun x => (⟨hashD X.w x.1, .ref x.2.1, x.2.2⟩ : DictEntry)) := by
  obtain ⟨⟨z, y, o, es, ep, h1, h2, h3, h4, h5⟩, _, _⟩ := (show ObjOk X.prog X.w H s.heap a (.ext (DL.DictX X.w a ys)) from I.hok a _ h.1)
  exact ⟨z, y, es, ep, ⟨o, h1, h2, h3⟩, h4⟩
def rListX (K : PySem.W.Frag) (w : World) : List V → Hp → VK → Prop := fun xs H Q => ∃ a ys, xs = [.ref a] ∧ Dx K w H a ys ∧ ∀ l, H l = none → Q (.ref l) (upd H l (.lst (ys.map fun y => V.ref y.2.1)))
theorem call_list_dict (hc : X.calm = true) : CallR X (.type "list") (rListX X.K X.w) := by
  intro pins s σ H xs us Q I r h
  obtain ⟨a, ys, rfl, hx, q⟩ := h
  obtain ⟨u, rfl, rx⟩ := vals1 r
  cases rx
  obtain ⟨z, sy, es, ep, hr, he⟩ := dx_raw I hx
  have hsz : es.size = ys.length := by rw [← Array.length_toList, he, List.length_map]
  refine raw_list (I.ok.hd hc) sy hr (by rw [hsz]; exact z) fun h' tk acc' c' kp e hacc => ?_
  refine ⟨.ref s.heap.objs.size, _, I.laid (t' := tk) kp (Nat.le_refl _) (show ObjOk X.prog X.w _ h' _ (.lst (ys.map fun y => V.ref y.2.1)) from ⟨by rw [List.length_map]; exact z, acc'.toList, c', keys_vals he (items_keys hacc), by rw [Array.toArray_toList]; exact e⟩), rfl, q _ (I.hok.fresh (Nat.le_refl _))⟩
noncomputable def tDisp1 (K : PySem.W.Frag) (w : World) (tk tv : TE) : TE := fun σ H Q => ∀ p, H p = none → tk σ (upd H p (.ext (DL.DictX w p []))) fun y H1 => tv σ H1 fun v H2 => H2 p = some (.ext (DL.DictX w p [])) ∧
  ∃ k b, y = .ref b ∧ KeyIn K H2 k y ∧ ∀ u, RelV v u → Q (.ref p) (upd H2 p (.ext (DL.DictX w p [(k, b, u)])))
theorem pe_disp1 {pos : Pos} {k v : Expr} {tk tv : TE} (hu : X.A.units + 64 < cLine) (hk : PE X k tk) (hv : PE X v tv) : PE X (.Dict [some k] [v] pos) (tDisp1 X.K X.w tk tv) := by
  intro pins s σ H Q I q
  have hn := I.hok.fresh (Nat.le_refl s.heap.objs.size)
  have sy : (s.heap.objs.size == sysModules) = false := beq_eq_false_iff_ne.mpr (Ne.symm (Nat.ne_of_lt I.big'))
  have I1 := I.laid (a := s.heap.objs.size) (o := .ext (DL.DictX X.w s.heap.objs.size [])) (h' := s.heap.push { cls := .type "dict", data := .dict #[] }) (t' := s.toks) (fun _ _ q => Heap.get?_push_of_some _ q) (Nat.le_refl _)
    (dx_new X.prog (Nat.zero_le _) sy (Heap.DictOfH.new s.heap))
  refine wpAny_Dict_any rfl rfl (by simp) (by simp) (pairTrees_cons_walk (thn (hk pins _ σ _ _ I1 (q _ hn)) fun kv s1 ⟨y, H1, I2, r1, q1⟩ => thn (hv pins s1 σ H1 _ I2 q1) fun vv s2 ⟨v, H2, I3, r2, e, kd, b, ey, hkey, q2⟩ => pairTrees_nil_walk ?_))
  subst ey
  cases r1
  obtain ⟨z, sy', dd⟩ := dx_of I3 (show Dx X.K X.w H2 s.heap.objs.size [] from ⟨e, fun _ hq => nomatch hq⟩)
  show wpAny _ _ (storeAll s.heap.objs.size [(Value.ref b, vv)]) _ _ s2
  unfold storeAll
  rw [List.forIn_cons]
  refine wpAny_bind (wpAny_bind (wpAny_dictSet_heap (hsz := Nat.zero_le _) (show (pdKind X.prog X.w).room X.A from by show X.A.units + 8 < cLine; omega) (key_is I3 hkey) dd fun h' dd' hs => wpAny_pure ?_))
  show wpAny _ _ (forIn [] _ _) _ _ _
  rw [List.forIn_nil]
  refine wpAny_pure ⟨.ref s.heap.objs.size, _, ?_, rfl, q2 vv r2⟩
  obtain ⟨o', es, ep, ho, _⟩ := id dd'
  exact I3.write (x := s.heap.objs.size) (e := s.heap.objs.size) (by rw [e]; exact True.intro) (.inl rfl) (fun b q hb z => (hs.2 b hb).trans z) ⟨_, ho⟩ (dx_new X.prog (by rw [sizeLine_eq]; simp [storedH, atKey]) sy dd')
end
end L2
namespace DL
open PySem PySem.Spec L2
section
variable {X : Cx} {K : PySem.W.Frag} {mg : Str → Option Value} {ww : World} {E : XK} {ow : List Bool}
theorem callListX (hc : X.calm = true := by rfl) (h : X.K = K := by rfl) (hw : X.w = ww := by rfl) : CallR X (.type "list") (rListX K ww) := by
  subst h hw
  exact call_list_dict hc
def keysD : List D → R D
  | [.dct ks _] => .ok (.lst ks)
  | _ => .bad
theorem o_keys : OpN K mg ww .f (rListX K ww) keysD := by
  intro E os H xs ds Q dm hp o
  unfold keysD at o
  split at o
  · obtain ⟨x, rfl, hx⟩ := pair1 hp
    obtain ⟨p, ys, xs, rfl, h1, h2, h3, h4⟩ := hx.dct
    exact ⟨p, ys, rfl, ⟨h1.1, keys_in h1.2.1 h1.2.2 (IsDs.same hide_le _ _ h2)⟩, fun l hl => o _ _ (Wv.same_new hl) (new_f hl h2)⟩
  · exact o.elim
def mDct1 (mk mv : Ev → R D) : Ev → R D := fun ρ => (mk ρ).bind fun k => (mv ρ).bind fun v => if okKey k = true then .ok (.dct [k] [v]) else .bad
theorem e_dct1 {pos : Pos} {k v : Expr} {mk mv : Ev → R D} (hu : X.A.units + 64 < cLine) (hk : PE X k (tE K mg ww .d E ow mk)) (hv : PE X v (tE K mg ww .d E ow mv)) (hK : X.K = K := by rfl) (hw : X.w = ww := by rfl) : PE X (.Dict [some k] [v] pos) (tE K mg ww .f E ow (mDct1 mk mv)) := by
  subst hK hw
  refine (pe_disp1 hu hk hv).mono fun σ H Q ⟨os, ρ, hd, o⟩ => ?_
  intro p hp
  have s0 := Wv.same_new (o := .ext (DictX X.w p [])) hp
  have hd1 := hd.more s0 hp (by rw [upd_same]; simp)
  refine ⟨p :: os, ρ, hd1, ?_⟩
  unfold mDct1 at o
  revert o
  cases mk ρ with
  | ok kd =>
    intro o y H1 s1 q1
    refine ⟨p :: os, ρ, hd1.same s1, ?_⟩
    rw [R.ok_bind] at o
    revert o
    cases mv ρ with
    | ok vd =>
      intro o v H2 s2 q2
      rw [R.ok_bind] at o
      split at o
      · rename_i hok
        have e2 : H2 p = some (.ext (DictX X.w p [])) := s2 _ _ (s1 _ _ upd_same)
        have q1' : IsD X.K mg X.w (hide (p :: os) H2) kd y := IsD.same (hide_mono s2) _ _ q1
        obtain ⟨b, rfl⟩ := (okKey_in hok (IsD.same hide_le _ _ q1')).2.2.1
        refine ⟨e2, toP kd, b, rfl, okKey_in hok (IsD.same hide_le _ _ q1'), fun u ru => ?_⟩
        have sm : Same (hide (p :: os) H2) (hide (p :: os) (upd H2 p (.ext (DictX X.w p [(toP kd, b, u)])))) := fun c oc z => by
          obtain ⟨z1, z2⟩ := hide_some.mp z
          refine hide_some.mpr ⟨z1, ?_⟩
          rw [upd_ne fun q => z1 (by rw [q]; exact List.mem_cons_self)]
          exact z2
        refine o _ _ (fun c oc z => ?_) ⟨p, rfl, hp, _, [v], ⟨upd_same, ?_, ?_⟩, ?_, ?_, ?_⟩
        · rw [upd_ne fun q => by rw [q, hp] at z; cases z]
          exact s2 _ _ (s1 _ _ (s0 _ _ z))
        · rw [toPs, toPs]
          rfl
        · simp [hok]
        · exact IsDs.cons (IsD.same sm _ _ q1') IsDs.nil
        · exact .cons ru .nil
        · exact IsDs.cons (IsD.same sm _ _ q2) IsDs.nil
      · exact o.elim
    | rse c =>
      rintro ⟨C, c1, c2⟩
      exact ⟨C, c1, fun H' z => c2 H' (s0.trans (s1.trans z))⟩
    | bad => exact fun o => o
  | rse c =>
    rintro ⟨C, c1, c2⟩
    exact ⟨C, c1, fun H' z => c2 H' (s0.trans z)⟩
  | bad => exact fun o => o
end
end DL
namespace DL
open PySem PySem.Spec L2
section
variable {X : Cx} {K : PySem.W.Frag} {mg : Str → Option Value} {ww : World} {E : XK} {ow : List Bool} {p5 p6 p7 pos : Pos}
theorem s_pop {i j : Nat} {x y : Str} {py : Pos} (hN : X.N.Nodup) (ho : ow.getD i false = true := by rfl) (hj : ow.getD j false = false := by rfl) (hNx : X.N[i]? = some x := by rfl) (hv : Vis X.env.scope x := by first | exact Or.inl rfl | exact Or.inr (Or.inl rfl) | exact Or.inr (Or.inr rfl))
    (hd : (x == ("__debug__" : Str)) = false := by decide) (hcd : (x == ("__classdict__" : Str)) = false := by decide)
    (hbase : attributeBase (.Name x p5) "pop" X.env (eval (.Name x p5) X.env) = eval (.Name x p5) X.env := by rfl) (hline : (p6.endLine == p7.line) = true := by rfl)
    (hi : X.N[j]? = some y := by rfl) (hx : Loc X.env.scope y := by first | exact Or.inl rfl | exact Or.inr rfl)
    (hs : swapsWith (popE x p5 p6 p7) (some (.Name y py)) pos.line X.env = pure false := by rfl) (hf : X.fn y = true ∨ X.env.scope.names.lookup y = some .local := by first | exact .inl rfl | exact .inr rfl | assumption) :
    PS X (.Assign [.Name y py] (popE x p5 p6 p7) pos) (tS K mg ww ow E (sPop j i)) :=
  (ps_set hN hi hx (pe_bm0 PySem.F.plainAttrs_list PySem.F.slot_list_pop PySem.F.type_list_pop mt_pop (pe_var hNx hv hd hcd) hbase hline) hs hf).mono fun Dn σ H ⟨fro, own, ρ, h, o⟩ => by
    unfold sPop at o
    split at o
    · rename_i ds hi
      split at o
      · rename_i d hn
        obtain ⟨a, h1, h2, xs, h3, h4⟩ := h.hd.own i _ ho hi
        obtain ⟨v, g1, g2⟩ := h4.atD (last_at hn)
        have g1' : xs[xs.length - 1]? = some v := by rw [h4.len]; exact g1
        refine ⟨_, h1, .inl ⟨rfl, xs, SqL.of h3⟩, a, xs, v, rfl, rfl, h3, g1', ?_⟩
        have hm : a ∈ own ++ fro := List.mem_append_left _ (h.mine i a _ ho hi h1)
        have hw := h.write (o := .lst xs.dropLast) (d := .lst ds.dropLast) ho hi h1 ⟨xs.dropLast, rfl, h4.dropLast⟩
        refine o own _ _ ⟨fun b o' hb z => ?_, fun b hb => .inl hb⟩ (hw.set hj ?_)
        · rw [upd_ne fun q => hb (by rw [q]; exact h.mine i a _ ho hi h1)]
          exact z
        · rw [hide_upd hm]
          exact g2
      · exact o.elim
    · exact o.elim
def sPop0 (j i : Nat) : Ev → R Fl := fun ρ => match ρ[i]? with
  | some (some (.lst (d :: ds))) => if ds.length ≤ 100000 then .ok (.nx ((ρ.set i (some (.lst ds))).set j (some d))) else .bad
  | _ => .bad
abbrev popE0 (x : Str) (jc : Nat) (p5 p6 p7 p8 : Pos) : Expr := .Call (.Attribute (.Name x p5) "pop" p6) [.Constant (.int 0) jc p8] [] p7
theorem s_pop0 {i j jc : Nat} {x y : Str} {py p8 : Pos} (hN : X.N.Nodup) (ho : ow.getD i false = true := by rfl) (hj : ow.getD j false = false := by rfl) (hNx : X.N[i]? = some x := by rfl) (hv : Vis X.env.scope x := by first | exact Or.inl rfl | exact Or.inr (Or.inl rfl) | exact Or.inr (Or.inr rfl))
    (hd : (x == ("__debug__" : Str)) = false := by decide) (hcd : (x == ("__classdict__" : Str)) = false := by decide)
    (hbase : attributeBase (.Name x p5) "pop" X.env (eval (.Name x p5) X.env) = eval (.Name x p5) X.env := by rfl)
    (hfew : ((backTo p7 (starEach [.Constant (.int 0) jc p8] X.env)).all (fun x => !x.1) && (backToKw p7 (keywordEach [] X.env)).all (fun x => x.1.isSome) && decide ([Expr.Constant (.int 0) jc p8].length + ([] : List Keyword).length + (if ([] : List Keyword).isEmpty then 0 else 1) < 30)) = true := by rfl)
    (hline : (p6.endLine == p7.line) = true := by rfl) (hst : starEach [.Constant (.int 0) jc p8] X.env = (false, eval (.Constant (.int 0) jc p8) X.env) :: starEach [] X.env := by rfl) (hplain : (backTo p7 (starEach [] X.env)).any (·.1) = false := by rfl)
    (hi : X.N[j]? = some y := by rfl) (hx : Loc X.env.scope y := by first | exact Or.inl rfl | exact Or.inr rfl)
    (hs : swapsWith (popE0 x jc p5 p6 p7 p8) (some (.Name y py)) pos.line X.env = pure false := by rfl) (hf : X.fn y = true ∨ X.env.scope.names.lookup y = some .local := by first | exact .inl rfl | exact .inr rfl | assumption) :
    PS X (.Assign [.Name y py] (popE0 x jc p5 p6 p7 p8) pos) (tS K mg ww ow E (sPop0 j i)) :=
  (ps_set hN hi hx (pe_bm PySem.F.plainAttrs_list PySem.F.slot_list_pop PySem.F.type_list_pop mt_popAt (pe_var hNx hv hd hcd) (pa_cons pe_int pa_nil hst) hbase hfew hline hst hplain) hs hf).mono fun Dn σ H ⟨fro, own, ρ, h, o⟩ => by
    unfold sPop0 at o
    split at o
    · rename_i d ds hi
      split at o
      · rename_i hl
        obtain ⟨a, h1, h2, xs, h3, h4⟩ := h.hd.own i _ ho hi
        obtain ⟨v, r, rfl, g2, g3⟩ := h4.uncons
        refine ⟨_, h1, .inl ⟨rfl, v :: r, SqL.of h3⟩, a, v :: r, 0, 0, v, rfl, rfl, h3, by omega, by omega, ?_, rfl, ?_⟩
        · have hr : r.length ≤ 100000 := by rw [g3.len]; exact hl
          unfold seqIndex?
          simp
        · have hm : a ∈ own ++ fro := List.mem_append_left _ (h.mine i a _ ho hi h1)
          have hw := h.write (o := .lst r) (d := .lst ds) ho hi h1 ⟨r, rfl, g3⟩
          refine o own _ _ ⟨fun b o' hb z => ?_, fun b hb => .inl hb⟩ (hw.set hj ?_)
          · show upd H a (.lst ((v :: r).eraseIdx 0)) b = _
            rw [upd_ne fun q => hb (by rw [q]; exact h.mine i a _ ho hi h1)]
            exact z
          · rw [hide_upd hm]
            exact g2
      · exact o.elim
    · exact o.elim
end
end DL
namespace L2
open PySem PySem.Spec PyProof.Rows
def rEqNil (K : PySem.W.Frag) : R2 := fun x y H Q => ∃ a b xs, x = .ref a ∧ y = .ref b ∧ SqL K H a xs ∧ SqL K H b [] ∧ Q (.bl xs.isEmpty) H
theorem op_eqNil {X : Cx} (hu : X.A.units + 64 < cLine) : OpR X (compareOp .Eq) (rEqNil X.K) := by
  intro pins s σ H x y v u Q I rx ry h
  obtain ⟨a, b, xs, rfl, rfl, h1, h2, q⟩ := h
  cases rx
  cases ry
  obtain ⟨its, r, pl, hz⟩ := I.list h1
  obtain ⟨its2, r2, pl2, hz2⟩ := I.list h2
  cases r2
  have fin : EP X pins σ Q (.bool xs.isEmpty) s := ⟨.bl _, H, I, rfl, q⟩
  cases r with
  | nil => exact SeqAt.RcAt.lists (e := fun _ => true) pl.isList pl2.isList rfl (by omega) (fun j j1 _ => absurd j1 (Nat.not_lt_zero j)) X.prog X.w X.xe _ fin
  | cons _ _ => exact SeqAt.RcAt.lists_lengths pl.isList pl2.isList (by simp) (by omega) X.prog X.w X.xe _ fin
end L2
namespace DL
open PySem PySem.Spec L2
def eqNil (d e : D) : R D := match d, e with
  | .lst l, .lst [] => .ok (.bl l.isEmpty)
  | _, _ => .bad
section
variable {X : Cx} {K : PySem.W.Frag} {mg : Str → Option Value} {ww : World}
theorem opEqNil (hu : X.A.units + 64 < cLine) (h : X.K = K := by rfl) : OpR X (compareOp .Eq) (rEqNil K) := h ▸ op_eqNil hu
theorem o_eqNil : Op2 K mg ww .d (rEqNil K) eqNil := by
  intro E os H x y d e Q dm hx hy o
  unfold eqNil at o
  split at o
  · obtain ⟨p, xs, rfl, h1, h2⟩ := hx.lst
    obtain ⟨p', xs', rfl, h3, h4⟩ := hy.lst
    rw [h4.nil'] at h3
    refine ⟨p, p', xs, rfl, rfl, SqL.of h1, SqL.of h3, ?_⟩
    rw [← isEmpty_ds h2]
    exact o _ H (Same.refl H) rBl
  · exact o.elim
end
end DL
namespace DL
open PySem PySem.Spec L2
def addAt (k t : D) : List D → List (List D) → List (List D)
  | x :: ks, l :: ls => if eqvD x k = true then (l ++ [t]) :: ls else l :: addAt k t ks ls
  | _, ls => ls
def layOne (k t : D) (ks : List D) (ls : List (List D)) : List D × List (List D) :=
  if (ks.any fun y => eqvD y k) = true then (ks, addAt k t ks ls) else (ks ++ [k], addAt k t (ks ++ [k]) (ls ++ [[]]))
def layLoop (mK : Ev → R D) (cl : D) : List D → List D → List (List D) → R (List D × List (List D))
  | [], ks, ls => .ok (ks, ls)
  | t :: ts, ks, ls => (mK [some cl, none, some t, none]).bind fun k => if okKey k = true ∧ ks.length ≤ 10000 ∧ (ls.all fun l => decide (l.length ≤ 10000)) = true then layLoop mK cl ts (layOne k t ks ls).1 (layOne k t ks ls).2 else .bad
def mLayers (mT : Ev → R (List D)) (mK mL : Ev → R D) : Ev → R Fl := fun ρ => match ρ with
  | [some cl, _, _, _] => (mT [some cl, none, none, none]).bind fun ts => (layLoop mK cl ts [] []).bind fun p => (mL [some cl, some (.dct p.1 (p.2.map D.lst)), none, none]).bind fun d => .ok (.rt d)
  | _ => .bad
section
variable {X : Cx} {K : PySem.W.Frag} {mg : Str → Option Value} {ww : World} {E : XK}
def InL (K : PySem.W.Frag) (mg : Str → Option Value) (ww : World) (Hh H : Hp) : List (List D) → List Addr → Prop := Paired fun l b => ∃ zs, H b = some (.lst zs) ∧ IsDs K mg ww Hh l zs
structure Lay (K : PySem.W.Frag) (mg : Str → Option Value) (ww : World) (fro bs : List Addr) (a : Addr) (H : Hp) (ks : List D) (ls : List (List D)) : Prop where
  dct : ∃ ys, DctO ww (H a) a ks ys ∧ IsDs K mg ww (hide (a :: (bs ++ fro)) H) ks (ys.map fun y => V.ref y.2.1) ∧ Vals (bs.map V.ref) (ys.map (·.2.2))
  lsts : InL K mg ww (hide (a :: (bs ++ fro)) H) H ls bs
  nd : (a :: bs).Nodup
  off : ∀ x ∈ a :: bs, x ∉ fro
  dom : ∀ x ∈ a :: (bs ++ fro), H x ≠ none
theorem InL.imp {Hh H Hh' H' : Hp} (s : Same Hh Hh') : ∀ {ls : List (List D)} {bs : List Addr}, (∀ b ∈ bs, H' b = H b) → InL K mg ww Hh H ls bs → InL K mg ww Hh' H' ls bs
  | _, _, _, .nil => .nil
  | _, _, hk, .cons h t => by
    obtain ⟨zs, h1, h2⟩ := h
    exact .cons ⟨zs, (hk _ List.mem_cons_self).trans h1, IsDs.same s _ _ h2⟩ (InL.imp s (fun b hb => hk b (List.mem_cons_of_mem _ hb)) t)
theorem InL.len {Hh H : Hp} {ls : List (List D)} {bs : List Addr} (h : InL K mg ww Hh H ls bs) : ls.length = bs.length := Paired.length h
theorem InL.set {Hh H : Hp} {vs : V} {t : D} : ∀ {ls : List (List D)} {bs : List Addr} {i : Nat} {b : Addr} {l : List D}, InL K mg ww Hh H ls bs → bs.Nodup → bs[i]? = some b → ls[i]? = some l → IsD K mg ww Hh t vs →
    ∃ zs, H b = some (.lst zs) ∧ zs.length = l.length ∧ InL K mg ww Hh (upd H b (.lst (zs ++ [vs]))) (ls.set i (l ++ [t])) bs
  | _, _, i, b, l, .nil, _, h1, _, _ => by simp at h1
  | _, _, 0, b, l, .cons h q, hn, h1, h2, ht => by
    simp at h1 h2
    subst h1 h2
    obtain ⟨zs, z1, z2⟩ := h
    rw [List.nodup_cons] at hn
    refine ⟨zs, z1, z2.len, ?_⟩
    rw [List.set_cons_zero]
    exact .cons ⟨_, upd_same, z2.append (IsDs.cons ht IsDs.nil)⟩ (InL.imp (fun _ _ z => z) (fun c hc => upd_ne fun e => hn.1 (by rw [← e]; exact hc)) q)
  | _, _, i + 1, b, l, .cons (a := l0) (b := b0) h q, hn, h1, h2, ht => by
    rw [List.nodup_cons] at hn
    rw [List.getElem?_cons_succ] at h1 h2
    obtain ⟨zs, z1, z2, z3⟩ := InL.set q hn.2 h1 h2 ht
    refine ⟨zs, z1, z2, ?_⟩
    rw [List.set_cons_succ]
    refine .cons ?_ z3
    obtain ⟨ws, w1, w2⟩ := h
    exact ⟨ws, by rw [upd_ne fun e => hn.1 (by rw [e]; exact List.mem_of_getElem? h1)]; exact w1, w2⟩
theorem lay_at {k t : D} (hk : okKey k = true) : ∀ {ks : List D} {ys : List (PyData × Addr × Value)} {bs : List Addr} {ls : List (List D)}, ys.map (·.1) = toPs ks → ks.all okKey = true → Vals (bs.map V.ref) (ys.map (·.2.2)) → ls.length = bs.length → (ks.any fun y => eqvD y k) = true →
    ∃ (i : Nat) (b : Addr) (l : List D) (p : Addr × Value), bs[i]? = some b ∧ ls[i]? = some l ∧ atKey ys (toP k) = some p ∧ p.2 = .ref b ∧ addAt k t ks ls = ls.set i (l ++ [t])
  | [], _, _, _, _, _, _, _, h => by cases h
  | x :: ks, [], _, _, e, _, _, _, _ => by rw [toPs] at e; cases e
  | x :: ks, y :: ys, bs, ls, e, ha, hv, hl, h => by
    rw [toPs, List.map_cons] at e
    rw [List.all_cons, Bool.and_eq_true] at ha
    rw [List.map_cons] at hv
    have e3 := (List.cons.inj e).1
    rw [List.any_cons, eqv_ok ha.1 hk, ← e3] at h
    cases bs with
    | nil => cases hv
    | cons b bs =>
      cases ls with
      | nil => cases hl
      | cons l ls =>
        rw [List.map_cons] at hv
        cases hv with
        | cons hv hvs =>
          rw [addAt, eqv_ok ha.1 hk, ← e3]
          by_cases q : y.1 = toP k
          · rw [decide_eq_true q, if_pos rfl]
            exact ⟨0, b, l, y.2, rfl, rfl, atKey_cons_pos q, hv, rfl⟩
          · rw [decide_eq_false q, if_neg Bool.false_ne_true]
            rw [decide_eq_false q, Bool.false_or] at h
            obtain ⟨i, b', l', p, g1, g2, g3, g4, g5⟩ := lay_at hk (List.cons.inj e).2 ha.2 hvs (by simpa using hl) h
            exact ⟨i + 1, b', l', p, g1, g2, by rw [atKey_cons_neg q]; exact g3, g4, by rw [g5]; rfl⟩
theorem Lay.same {fro bs : List Addr} {a : Addr} {H H' : Hp} {ks : List D} {ls : List (List D)} (h : Lay K mg ww fro bs a H ks ls) (s : Same H H') : Lay K mg ww fro bs a H' ks ls := by
  obtain ⟨ys, h1, h2, h3⟩ := h.dct
  have hs := hide_mono (os := a :: (bs ++ fro)) s
  refine ⟨⟨ys, h1.same s, IsDs.same hs _ _ h2, h3⟩, InL.imp hs (fun b hb => ?_) h.lsts, h.nd, h.off, fun x hx => ?_⟩
  · cases q : H b with
    | none => exact absurd q (h.dom b (List.mem_cons_of_mem _ (List.mem_append_left _ hb)))
    | some o => exact s _ _ q
  · cases q : H x with
    | none => exact absurd q (h.dom x hx)
    | some o => rw [s _ _ q]; simp
theorem Lay.put {fro bs : List Addr} {a b p : Addr} {H : Hp} {ks : List D} {ls : List (List D)} {k : D} {ys : List (PyData × Addr × Value)} (h : Lay K mg ww fro bs a H ks ls) (h1 : DctO ww (H a) a ks ys) (h2 : IsDs K mg ww (hide (a :: (bs ++ fro)) H) ks (ys.map fun y => V.ref y.2.1)) (h3 : Vals (bs.map V.ref) (ys.map (·.2.2)))
    (hk : okKey k = true) (hb : IsD K mg ww (hide (a :: (bs ++ fro)) H) k (.ref b)) (hp : H p = none) (hn : (ks.any fun y => eqvD y k) = false) :
    Lay K mg ww fro (bs ++ [p]) a (upd (upd H p (.lst [])) a (.ext (DictX ww a (storedH ys (toP k) b (.ref p))))) (ks ++ [k]) (ls ++ [[]]) := by
  have pa : p ≠ a := fun e => h.dom a List.mem_cons_self (by rw [← e]; exact hp)
  have pb : p ∉ bs := fun e => h.dom p (List.mem_cons_of_mem _ (List.mem_append_left _ e)) hp
  have pf : p ∉ fro := fun e => h.dom p (List.mem_cons_of_mem _ (List.mem_append_right _ e)) hp
  have hnd := List.nodup_cons.mp h.nd
  have sm : Same (hide (a :: (bs ++ fro)) H) (hide (a :: (bs ++ [p] ++ fro)) (upd (upd H p (.lst [])) a (.ext (DictX ww a (storedH ys (toP k) b (.ref p)))))) := fun c oc z => by
    obtain ⟨z1, z2⟩ := hide_some.mp z
    have cp : c ≠ p := fun e => by rw [e, hp] at z2; cases z2
    have ca : c ≠ a := fun e => z1 (by rw [e]; exact List.mem_cons_self)
    refine hide_some.mpr ⟨fun q => ?_, ?_⟩
    · simp only [List.mem_cons, List.mem_append, List.not_mem_nil, or_false] at q z1
      rcases q with q | (q | q) | q
      · exact ca q
      · exact z1 (.inr (.inl q))
      · exact cp q
      · exact z1 (.inr (.inr q))
    · rw [upd_ne ca, upd_ne cp]
      exact z2
  have hst : storedH ys (toP k) b (.ref p) = ys ++ [(toP k, b, .ref p)] := by
    refine storedH_new ?_ _ _
    have := atKey_any hk h1.2.1 h1.2.2
    rw [hn] at this
    cases q : atKey ys (toP k) with
    | none => rfl
    | some x =>
      rw [q] at this
      cases this
  refine ⟨⟨ys ++ [(toP k, b, .ref p)], ⟨by rw [← hst]; exact upd_same, ?_, ?_⟩, ?_, ?_⟩, ?_, ?_, ?_, ?_⟩
  · rw [List.map_append, toPs_append, h1.2.1]
    rfl
  · rw [List.all_append, h1.2.2]
    simp [hk]
  · rw [List.map_append]
    exact (IsDs.same sm _ _ h2).append (IsDs.cons (IsD.same sm _ _ hb) IsDs.nil)
  · rw [List.map_append, List.map_append]
    exact Paired.snoc h3 rfl
  · refine Paired.snoc (InL.imp sm (fun c hc => ?_) h.lsts) ⟨[], ?_, IsDs.nil⟩
    · rw [upd_ne fun e => hnd.1 (by rw [← e]; exact hc), upd_ne fun e => pb (by rw [← e]; exact hc)]
    · rw [upd_ne pa, upd_same]
  · rw [List.nodup_cons, List.nodup_append]
    refine ⟨fun q => ?_, hnd.2, by simp, fun x hx y hy => ?_⟩
    · rcases List.mem_append.mp q with q | q
      · exact hnd.1 q
      · exact pa (List.mem_singleton.mp q).symm
    · rw [List.mem_singleton.mp hy]
      exact fun e => pb (by rw [← e]; exact hx)
  · intro x hx
    simp only [List.mem_cons, List.mem_append, List.not_mem_nil, or_false] at hx
    rcases hx with rfl | hx | rfl
    · exact h.off _ List.mem_cons_self
    · exact h.off _ (List.mem_cons_of_mem _ hx)
    · exact pf
  · intro x hx
    by_cases xa : x = a
    · rw [xa, upd_same]
      simp
    · rw [upd_ne xa]
      by_cases xp : x = p
      · rw [xp, upd_same]
        simp
      · rw [upd_ne xp]
        refine h.dom x ?_
        simp only [List.mem_cons, List.mem_append, List.not_mem_nil, or_false] at hx ⊢
        rcases hx with hx | (hx | hx) | hx
        · exact .inl hx
        · exact .inr (.inl hx)
        · exact absurd hx xp
        · exact .inr (.inr hx)
theorem Lay.add {fro bs : List Addr} {a b : Addr} {H : Hp} {ks : List D} {ls ls' : List (List D)} {i : Nat} {zs : List V} {v : V} (h : Lay K mg ww fro bs a H ks ls) (hb : bs[i]? = some b) (hn : InL K mg ww (hide (a :: (bs ++ fro)) H) (upd H b (.lst (zs ++ [v]))) ls' bs) : Lay K mg ww fro bs a (upd H b (.lst (zs ++ [v]))) ks ls' := by
  have hm : b ∈ bs := List.mem_of_getElem? hb
  have hnd := List.nodup_cons.mp h.nd
  have ba : b ≠ a := fun e => hnd.1 (by rw [← e]; exact hm)
  have hh : hide (a :: (bs ++ fro)) (upd H b (.lst (zs ++ [v]))) = hide (a :: (bs ++ fro)) H := hide_upd (List.mem_cons_of_mem _ (List.mem_append_left _ hm))
  obtain ⟨ys, h1, h2, h3⟩ := h.dct
  refine ⟨⟨ys, ⟨by rw [upd_ne (Ne.symm ba)]; exact h1.1, h1.2⟩, by rw [hh]; exact h2, h3⟩, by rw [hh]; exact hn, h.nd, h.off, fun x hx => ?_⟩
  by_cases xb : x = b
  · rw [xb, upd_same]
    simp
  · rw [upd_ne xb]
    exact h.dom x hx
theorem InL.free {fro : List Addr} {Hh H : Hp} (s : Same Hh (hide fro H)) : ∀ {ls : List (List D)} {bs : List Addr}, (∀ b ∈ bs, b ∉ fro) → InL K mg ww Hh H ls bs → IsDs K mg ww (hide fro H) (ls.map D.lst) (bs.map V.ref)
  | _, _, _, .nil => IsDs.nil
  | _, _, hk, .cons h t => by
    obtain ⟨zs, h1, h2⟩ := h
    rw [List.map_cons, List.map_cons]
    refine IsDs.cons ?_ (InL.free s (fun b hb => hk b (List.mem_cons_of_mem _ hb)) t)
    rw [IsD]
    exact ⟨_, zs, rfl, hide_some.mpr ⟨hk _ List.mem_cons_self, h1⟩, IsDs.same s _ _ h2⟩
theorem Lay.free {fro bs : List Addr} {a : Addr} {H : Hp} {ks : List D} {ls : List (List D)} (h : Lay K mg ww fro bs a H ks ls) : IsD K mg ww (hide fro H) (.dct ks (ls.map D.lst)) (.ref a) := by
  obtain ⟨ys, h1, h2, h3⟩ := h.dct
  have s : Same (hide (a :: (bs ++ fro)) H) (hide fro H) := hide_sub fun x hx => List.mem_cons_of_mem _ (List.mem_append_right _ hx)
  rw [IsD]
  exact ⟨a, ys, bs.map V.ref, rfl, ⟨hide_some.mpr ⟨h.off a List.mem_cons_self, h1.1⟩, h1.2⟩, IsDs.same s _ _ h2, h3, InL.free s (fun b hb => h.off b (List.mem_cons_of_mem _ hb)) h.lsts⟩
theorem hd_no {os : List Addr} {H : Hp} {σ : St} {ρ : Ev} (hl : σ.length = ρ.length) (dm : ∀ x ∈ os, H x ≠ none) (im : ∀ (i : Nat) (d : D), ρ[i]? = some (some d) → ∃ v, σ[i]? = some (some v) ∧ IsD K mg ww (hide os H) d v) : Hd K mg ww [] os H σ ρ :=
  ⟨hl, dm, fun i d _ h => im i d h, fun i d h _ => by simp at h, fun i j a d e _ h _ _ _ _ _ => by simp at h⟩
def tTurn (K : PySem.W.Frag) (mg : Str → Option Value) (ww : World) (E : XK) (mK : Ev → R D) : TS := tSeq (tAsg (tE K mg ww .d E [] mK) (gName 3)) (tSeq (tIfS (tTest (tOp (rInX K ww true) (tVar 3) (tVar 1))) (tAsg (tLst tNil) (gSub (tVar 1) (tVar 3) (rSetX K ww))) tNext)
  (tDrop (tBM K "list" rAppend (tOp (rGetX K ww) (tVar 1) (tVar 3)) (tCons (tVar 2) tNil))))
structure Base (H1 : Hp) (a : Addr) (bs : List Addr) (H : Hp) : Prop where
  new : ∀ x ∈ bs, H1 x = none
  keep : ∀ b o, b ≠ a → H1 b = some o → H b = some o
theorem Base.same {H1 H H' : Hp} {a : Addr} {bs : List Addr} (h : Base H1 a bs H) (s : Same H H') : Base H1 a bs H' := ⟨h.new, fun b o hb q => s b o (h.keep b o hb q)⟩
theorem Base.put {H1 H : Hp} {a p : Addr} {bs : List Addr} {o1 o2 : HO} (h : Base H1 a bs H) (hp : H p = none) (ha : H a ≠ none) : Base H1 a (bs ++ [p]) (upd (upd H p o1) a o2) := by
  have pa : p ≠ a := fun e => ha (by rw [← e]; exact hp)
  have p1 : H1 p = none := by
    cases q : H1 p with
    | none => rfl
    | some o =>
      rw [h.keep p o pa q] at hp
      cases hp
  refine ⟨fun x hx => ?_, fun b o hb q => ?_⟩
  · rcases List.mem_append.mp hx with hx | hx
    · exact h.new x hx
    · rw [List.mem_singleton.mp hx]
      exact p1
  · rw [upd_ne hb, upd_ne fun e => by rw [e, p1] at q; cases q]
    exact h.keep b o hb q
theorem Base.add {H1 H : Hp} {a b : Addr} {bs : List Addr} {o1 : HO} (h : Base H1 a bs H) (hb : b ∈ bs) : Base H1 a bs (upd H b o1) :=
  ⟨h.new, fun c o hc q => by
    rw [upd_ne fun e => by rw [e, h.new b hb] at q; cases q]
    exact h.keep c o hc q⟩
theorem Base.hide {H1 H : Hp} {a : Addr} {bs fro : List Addr} (h : Base H1 a bs H) : Same (DL.hide (a :: fro) H1) (DL.hide (a :: (bs ++ fro)) H) := fun b o z => by
  obtain ⟨z1, z2⟩ := hide_some.mp z
  have ba : b ≠ a := fun e => z1 (by rw [e]; exact List.mem_cons_self)
  refine hide_some.mpr ⟨fun q => ?_, h.keep b o ba z2⟩
  rcases List.mem_cons.mp q with q | q
  · exact ba q
  · rcases List.mem_append.mp q with q | q
    · rw [h.new b q] at z2
      cases z2
    · exact z1 (List.mem_cons_of_mem _ q)
theorem turn_go {mK : Ev → R D} {Dn : Ends} {fro bs : List Addr} {a : Addr} {H1 H : Hp} {ks : List D} {ls : List (List D)} {cl t : D} {vc vt : V} {v3 : Option V} (hL : Lay K mg ww fro bs a H ks ls) (hB : Base H1 a bs H) (hc : IsD K mg ww (hide (a :: fro) H1) cl vc) (ht : IsD K mg ww (hide (a :: (bs ++ fro)) H) t vt)
    (hr : ∀ c, mK [some cl, none, some t, none] = .rse c → ∃ C, mg c = some (.ref C) ∧ ∀ H', Same H H' → E (.ref C) none H') (hb : mK [some cl, none, some t, none] ≠ .bad)
    (hok : ∀ k, mK [some cl, none, some t, none] = .ok k → (okKey k = true ∧ ks.length ≤ 10000 ∧ (ls.all fun l => decide (l.length ≤ 10000)) = true) ∧ ∀ bs' H' vk, Lay K mg ww fro bs' a H' (layOne k t ks ls).1 (layOne k t ks ls).2 → Base H1 a bs' H' → Dn.nx [some vc, some (.ref a), some vt, vk] H') :
    tTurn K mg ww E mK Dn [some vc, some (.ref a), some vt, v3] H := by
  refine ⟨a :: (bs ++ fro), [some cl, none, some t, none], hd_no rfl hL.dom fun i d hd => ?_, ?_⟩
  · rcases i with _ | _ | _ | _ | i
    · cases hd
      exact ⟨vc, rfl, IsD.same hB.hide _ _ hc⟩
    · cases hd
    · cases hd
      exact ⟨vt, rfl, ht⟩
    · cases hd
    · cases hd
  cases hk : mK [some cl, none, some t, none] with
  | bad => exact absurd hk hb
  | rse c => exact hr c hk
  | ok k =>
    obtain ⟨⟨k1, k2, k3⟩, fin⟩ := hok k hk
    intro vk H2 s2 qk
    have hL2 := hL.same s2
    have hB2 := hB.same s2
    have qk' : IsD K mg ww (hide (a :: (bs ++ fro)) H2) k vk := qk
    have kin := okKey_in k1 (IsD.same hide_le _ _ qk')
    obtain ⟨kb, rfl⟩ := kin.2.2.1
    have ht2 : IsD K mg ww (hide (a :: (bs ++ fro)) H2) t vt := IsD.same (hide_mono s2) _ _ ht
    obtain ⟨ys, h1, h2, h3⟩ := hL2.dct
    have dx : Dx K ww H2 a ys := ⟨h1.1, keys_in h1.2.1 h1.2.2 (IsDs.same hide_le _ _ h2)⟩
    have app : ∀ {bs' : List Addr} {H' : Hp} {ks' : List D} {ls' : List (List D)}, Lay K mg ww fro bs' a H' ks' ls' → Base H1 a bs' H' → (ks'.any fun y => eqvD y k) = true → ks'.length ≤ 10001 → (∀ l ∈ ls', l.length ≤ 10000) → IsD K mg ww (hide (a :: (bs' ++ fro)) H') k (.ref kb) → IsD K mg ww (hide (a :: (bs' ++ fro)) H') t vt → layOne k t ks ls = (ks', addAt k t ks' ls') →
        tDrop (tBM K "list" rAppend (tOp (rGetX K ww) (tVar 1) (tVar 3)) (tCons (tVar 2) tNil)) Dn [some vc, some (.ref a), some vt, some (.ref kb)] H' := fun {bs' H' ks' ls'} hL' hB' hany hlen hlens hk' ht' he => by
      obtain ⟨ys', g1, g2, g3⟩ := hL'.dct
      obtain ⟨i, b, l, p, e1, e2, e3, e4, e5⟩ := lay_at (t := t) k1 g1.2.1 g1.2.2 g3 hL'.lsts.len hany
      obtain ⟨zs, z1, z2, z3⟩ := hL'.lsts.set (List.nodup_cons.mp hL'.nd).2 e1 e2 ht'
      have hl : l.length ≤ 10000 := hlens l (List.mem_of_getElem? e2)
      refine ⟨.ref a, rfl, .ref kb, rfl, a, ys', toP k, p, .ref b, rfl, ⟨g1.1, keys_in g1.2.1 g1.2.2 (IsDs.same hide_le _ _ g2)⟩, okKey_in k1 (IsD.same hide_le _ _ hk'), e3, ?_, .inl ⟨rfl, zs, SqL.of z1⟩, vt, rfl, b, zs, vt, rfl, rfl, z1, ?_, ?_⟩
      · rw [e4]
        rfl
      · rw [z2, sizeLine_eq]
        omega
      · refine fin bs' _ (some (.ref kb)) ?_ (hB'.add (List.mem_of_getElem? e1))
        rw [he]
        show Lay K mg ww fro bs' a _ ks' (addAt k t ks' ls')
        rw [e5]
        exact hL'.add e1 z3
    refine ⟨.ref kb, rfl, .ref a, rfl, a, ys, toP k, rfl, dx, kin, _, rfl, ?_⟩
    rw [if_pos rfl, atKey_any k1 h1.2.1 h1.2.2]
    have hls : ∀ l ∈ ls, l.length ≤ 10000 := fun l hl => of_decide_eq_true (List.all_eq_true.mp k3 l hl)
    cases hany : ks.any fun y => eqvD y k with
    | true =>
      dsimp only
      rw [if_neg (by simp)]
      exact app hL2 hB2 hany (by omega) hls qk' ht2 (by unfold layOne; rw [hany, if_pos rfl])
    | false =>
      dsimp only
      rw [if_pos (by simp)]
      refine ⟨Nat.zero_le _, fun p hp => ⟨.ref a, rfl, .ref kb, rfl, a, ys, toP k, kb, rfl, rfl, ?_, ?_, ?_, fun u ru => ?_⟩⟩
      · have s3 := Wv.same_new (o := .lst []) hp
        exact ⟨s3 _ _ h1.1, keys_in h1.2.1 h1.2.2 (IsDs.same (hide_le.trans s3) _ _ h2)⟩
      · exact okKey_in k1 (IsD.same (hide_le.trans (Wv.same_new hp)) _ _ qk')
      · rw [tab_len h1.2.1, sizeLine_eq]
        omega
      · cases (show u = Value.ref p from ru)
        have hL3 := hL2.put h1 h2 h3 k1 qk' hp hany
        have hB3 := hB2.put (o1 := .lst []) (o2 := .ext (DictX ww a (storedH ys (toP k) kb (.ref p)))) hp (hL2.dom a List.mem_cons_self)
        have sm : Same (hide (a :: (bs ++ fro)) H2) (hide (a :: (bs ++ [p] ++ fro)) (upd (upd H2 p (.lst [])) a (.ext (DictX ww a (storedH ys (toP k) kb (.ref p)))))) := fun c oc z => by
          obtain ⟨z1, z2⟩ := hide_some.mp z
          have cp : c ≠ p := fun e => by rw [e, hp] at z2; cases z2
          have ca : c ≠ a := fun e => z1 (by rw [e]; exact List.mem_cons_self)
          refine hide_some.mpr ⟨fun q => ?_, ?_⟩
          · simp only [List.mem_cons, List.mem_append, List.not_mem_nil, or_false] at q z1
            rcases q with q | (q | q) | q
            · exact ca q
            · exact z1 (.inr (.inl q))
            · exact cp q
            · exact z1 (.inr (.inr q))
          · rw [upd_ne ca, upd_ne cp]
            exact z2
        refine app hL3 hB3 ?_ (by rw [List.length_append]; simp; omega) (fun l hl => ?_) (IsD.same sm _ _ qk') (IsD.same sm _ _ ht2) (by unfold layOne; rw [hany, if_neg Bool.false_ne_true])
        · rw [List.any_append, hany, Bool.false_or, List.any_cons, eqv_ok k1 k1, decide_eq_true rfl]
          rfl
        · rcases List.mem_append.mp hl with hl | hl
          · exact hls l hl
          · rw [List.mem_singleton.mp hl]
            exact Nat.zero_le _
theorem ss_layers {mT : Ev → R (List D)} {mK mL : Ev → R D} {st : Stmt} {tg iter ret : Expr} {body : List Stmt} {pos pos2 : Pos} (h0 : PS X st (tAsg (tDNewX ww) (gName 1))) (hp : PassesOwn (model X.prog X.w) X.A X.env X.xe) (hi : PI X tg iter (tI K mg ww false E [] mT)) (hg : PG X tg (gName 2)) (hb : PSs X body (tTurn K mg ww E mK)) (he : PE X ret (tE K mg ww .d E [] mL))
    (hc : X.calm = true := by rfl) (hs : ∀ x, foldedSetIterable iter X.env x = pure x := by intro _; rfl) : PSs X [st, .For tg iter body [] pos, .Return (some ret) pos2] (tS K mg ww [] E (mLayers mT mK mL)) :=
  (pss_cons h0 (pss_cons (ps_for hp hc hi hg hb hs) (pss_one (ps_ret he)))).mono fun Dn σ H ⟨fro, own, ρ, h, o⟩ => by
    unfold mLayers at o
    split at o
    · rename_i cl r1 r2 r3
      obtain ⟨vc, c1, c2⟩ := h.hd.imm 0 cl rfl rfl
      have hlen := h.hd.len
      match σ, hlen, c1 with
      | [some vc', s1, s2, s3], _, c1 =>
        cases c1
        intro a ha
        have sA : Same H (upd H a (.ext (DictX ww a []))) := Wv.same_new ha
        have af : a ∉ own ++ fro := fun q => h.hd.dom a q ha
        have hcA : IsD K mg ww (hide (a :: (own ++ fro)) (upd H a (.ext (DictX ww a [])))) cl vc := IsD.same (hide_new sA ha) _ _ c2
        have dmA : ∀ x ∈ a :: (own ++ fro), upd H a (.ext (DictX ww a [])) x ≠ none := fun x hx => by
          by_cases e : x = a
          · rw [e, upd_same]
            simp
          · rw [upd_ne e]
            rcases List.mem_cons.mp hx with q | q
            · exact absurd q e
            · exact h.hd.dom x q
        refine ⟨a :: (own ++ fro), [some cl, none, none, none], hd_no rfl dmA fun i d hd => ?_, ?_⟩
        · rcases i with _ | _ | _ | _ | i
          · cases hd
            exact ⟨vc, rfl, hcA⟩
          · cases hd
          · cases hd
          · cases hd
          · cases hd
        revert o
        cases mT [some cl, none, none, none] with
        | bad => exact fun o => o
        | rse c =>
          rintro ⟨C, q1, q2⟩
          exact ⟨C, q1, fun H' z => q2 H' (Same.keep (sA.trans z))⟩
        | ok ts =>
          intro o J H1 s1 it
          rw [R.ok_bind] at o
          refine ⟨fun i m σ' H' => m = ts.length - i ∧ i ≤ ts.length ∧ ∃ bs ks ls v2 v3, σ' = [some vc, some (.ref a), v2, v3] ∧ Lay K mg ww (own ++ fro) bs a H' ks ls ∧ Base H1 a bs H' ∧
            OutS K mg ww [] E fro own H ((layLoop mK cl (ts.drop i) ks ls).bind fun p => (mL [some cl, some (.dct p.1 (p.2.map D.lst)), none, none]).bind fun d => .ok (.rt d)) Dn, ⟨ts.length, by simp, Nat.zero_le _, [], [], [], s2, s3, rfl, ?_, ⟨fun x hx => (nomatch hx), fun b o _ z => z⟩, by rw [List.drop_zero]; exact o⟩, ?_⟩
          · refine ⟨⟨[], ⟨s1 _ _ upd_same, by rw [toPs]; rfl, rfl⟩, IsDs.nil, .nil⟩, .nil, by simp, fun x hx => ?_, fun x hx => ?_⟩
            · rw [List.mem_singleton.mp hx]
              exact af
            · cases q : upd H a (.ext (DictX ww a [])) x with
              | none => exact absurd q (dmA x hx)
              | some o' => rw [s1 _ _ q]; simp
          · have keepH : ∀ {bs : List Addr} {H' : Hp}, Base H1 a bs H' → Same H H' := fun {bs H'} hB b o' z => hB.keep b o' (fun e => by rw [e, ha] at z; cases z) (s1 _ _ (sA _ _ z))
            rintro i m σ' H' ⟨rfl, hi', bs, ks, ls, v2, v3, rfl, hL, hB, o'⟩
            obtain ⟨it1, it2⟩ := it i (a :: (bs ++ (own ++ fro))) H' hL.dom hB.hide fun z => (nomatch z)
            by_cases hlt : i < ts.length
            · obtain ⟨go, yl⟩ := it1 _ (List.getElem?_eq_getElem hlt)
              refine .inr ⟨go, fun σ' H' => ∃ bs ks ls v2 v3, σ' = [some vc, some (.ref a), v2, v3] ∧ Lay K mg ww (own ++ fro) bs a H' ks ls ∧ Base H1 a bs H' ∧
                OutS K mg ww [] E fro own H ((layLoop mK cl (ts.drop (i + 1)) ks ls).bind fun p => (mL [some cl, some (.dct p.1 (p.2.map D.lst)), none, none]).bind fun d => .ok (.rt d)) Dn, fun σ2 H2 w => ⟨ts.length - (i + 1), by omega, rfl, hlt, w⟩, fun x H3 y => ?_⟩
              obtain ⟨s3', hx⟩ := yl x H3 y
              rw [List.drop_eq_getElem_cons hlt, layLoop] at o'
              have hc1 : IsD K mg ww (hide (a :: (own ++ fro)) H1) cl vc := IsD.same (hide_mono s1) _ _ hcA
              refine turn_go (H1 := H1) (hL.same s3') (hB.same s3') hc1 hx (fun c e => ?_) (fun e => ?_) fun k e => ?_
              · rw [e] at o'
                obtain ⟨C, q1, q2⟩ := o'
                exact ⟨C, q1, fun H4 z => q2 H4 (Same.keep ((keepH hB).trans (s3'.trans z)))⟩
              · rw [e] at o'
                exact o'
              · rw [e] at o'
                have o2 : OutS K mg ww [] E fro own H ((if okKey k = true ∧ ks.length ≤ 10000 ∧ (ls.all fun l => decide (l.length ≤ 10000)) = true then layLoop mK cl (ts.drop (i + 1)) (layOne k ts[i] ks ls).1 (layOne k ts[i] ks ls).2 else .bad).bind fun p => (mL [some cl, some (.dct p.1 (p.2.map D.lst)), none, none]).bind fun d => .ok (.rt d)) Dn := o'
                split at o2
                · rename_i hq
                  exact ⟨hq, fun bs' H'' vk hL' hB' => ⟨bs', _, _, some x, vk, rfl, hL', hB', o2⟩⟩
                · exact o2.elim
            · have e1 : i = ts.length := by omega
              subst e1
              rw [List.drop_length, layLoop, R.ok_bind] at o'
              refine .inl ⟨it2 (Nat.le_refl _), own ++ fro, [some cl, some (.dct ks (ls.map D.lst)), none, none], hd_no rfl (fun x hx => hL.dom x (List.mem_cons_of_mem _ (List.mem_append_right _ hx))) fun j d hd => ?_, ?_⟩
              · rcases j with _ | _ | _ | _ | j
                · cases hd
                  refine ⟨vc, rfl, IsD.same (hide_mono (keepH hB)) _ _ c2⟩
                · cases hd
                  exact ⟨.ref a, rfl, hL.free⟩
                · cases hd
                · cases hd
                · cases hd
              · revert o'
                cases mL [some cl, some (.dct ks (ls.map D.lst)), none, none] with
                | bad => exact fun o' => o'
                | rse c =>
                  rintro ⟨C, q1, q2⟩
                  exact ⟨C, q1, fun H4 z => q2 H4 (Same.keep ((keepH hB).trans z))⟩
                | ok d =>
                  intro o' v H4 s4 q4
                  exact o' v H4 (Same.keep ((keepH hB).trans s4)) (IsD.same (hide_sub fun x hx => List.mem_append_right _ hx) _ _ q4)
    · exact o.elim
end
end DL
namespace L2
open PySem PySem.Spec PyProof.Rows PySem.W
def kasRun {α : Type} (lt : Nat → Nat → Bool) : KasT α → α
  | .ret a => a
  | .ask i j k => kasRun lt (k (lt i j))
theorem run_bind {α β : Type} (lt : Nat → Nat → Bool) (f : α → KasT β) : ∀ t : KasT α, kasRun lt (t.bind f) = kasRun lt (f (kasRun lt t))
  | .ret a => rfl
  | .ask i j k => by
    show kasRun lt ((k (lt i j)).bind f) = kasRun lt (f (kasRun lt (k (lt i j))))
    exact run_bind lt f (k (lt i j))
theorem run_ret {α : Type} (lt : Nat → Nat → Bool) (a : α) : kasRun lt (.ret a) = a := rfl
theorem run_ask {α : Type} (lt : Nat → Nat → Bool) (i j : Nat) (k : Bool → KasT α) : kasRun lt (.ask i j k) = kasRun lt (k (lt i j)) := rfl
theorem run_ite {α : Type} (lt : Nat → Nat → Bool) (c : Prop) [Decidable c] (a b : KasT α) : kasRun lt (if c then a else b) = if c then kasRun lt a else kasRun lt b := by split <;> rfl
section
variable (key : Nat → Int)
def ltK (i j : Nat) : Bool := decide (key i < key j)
def K' (p : Array Nat) (i : Nat) : Int := key (p.getD i 0)
def SortT (p : Array Nat) (k : Nat) : Prop := ∀ i j, i ≤ j → j < k → K' key p i ≤ K' key p j
def NonT (p : Array Nat) (k : Nat) : Prop := ∀ i j, i ≤ j → j < k → K' key p j ≤ K' key p i
variable {key}
theorem K_congr {p q : Array Nat} {i j : Nat} (h : p[i]? = q[j]?) : K' key p i = K' key q j := by
  unfold K'
  rw [Array.getD_eq_getD_getElem?, Array.getD_eq_getD_getElem?, h]
theorem K_rev {p : Array Nat} {i j : Nat} (hj : j ≤ p.size) (k : Nat) : K' key (kas_rev p i j) k = if i ≤ k ∧ k < j then K' key p (i + j - 1 - k) else K' key p k := by
  have e := getElem?_mirror_all (i := i) hj k
  unfold kas_rev
  by_cases h1 : i ≤ k ∧ k < j
  · rw [if_pos h1] at e ⊢
    exact K_congr e
  · rw [if_neg h1] at e ⊢
    exact K_congr e
theorem K_bub {p : Array Nat} {src d : Nat} (hs : src < p.size) (hd : d ≤ src) (k : Nat) : K' key (bubble p src d) k = if k = src - d then K' key p src else if src - d < k ∧ k ≤ src then K' key p (k - 1) else K' key p k := by
  have e := getElem?_bubble hs d hd k
  by_cases h1 : k = src - d
  · rw [if_pos h1] at e ⊢
    exact K_congr e
  · rw [if_neg h1] at e ⊢
    by_cases h2 : src - d < k ∧ k ≤ src
    · rw [if_pos h2] at e ⊢
      exact K_congr e
    · rw [if_neg h2] at e ⊢
      exact K_congr e
theorem rev_size (p : Array Nat) (i j : Nat) : (kas_rev p i j).size = p.size := mirror_size _ _ _ _
theorem rev_perm (p : Array Nat) (i j : Nat) : (kas_rev p i j).Perm p := mirror_perm _ _ _ _
theorem asc_ok {p : Array Nat} : ∀ (f n : Nat), 1 ≤ n → SortT key p n → n ≤ kasRun (ltK key) (kas_asc p f n) ∧ kasRun (ltK key) (kas_asc p f n) ≤ n + f ∧ SortT key p (kasRun (ltK key) (kas_asc p f n))
  | 0, n, _, h => ⟨Nat.le_refl _, Nat.le_refl _, h⟩
  | f + 1, n, hn, h => by
    rw [kas_asc, run_ask, run_ite]
    by_cases c : ltK key (p.getD n 0) (p.getD (n - 1) 0) = true
    · rw [if_pos c, run_ret]
      exact ⟨Nat.le_refl _, by omega, h⟩
    · rw [if_neg c]
      have c' : K' key p (n - 1) ≤ K' key p n := by
        have c2 : ¬ key (p.getD n 0) < key (p.getD (n - 1) 0) := fun w => c (decide_eq_true w)
        unfold K'
        omega
      have h2 : SortT key p (n + 1) := fun i j hij hj => by
        rcases Nat.lt_or_ge j n with q | q
        · exact h i j hij q
        · have : j = n := by omega
          subst this
          rcases Nat.lt_or_ge i j with r | r
          · exact Int.le_trans (h i (j - 1) (by omega) (by omega)) c'
          · have : i = j := by omega
            rw [this]
            exact Int.le_refl _
      obtain ⟨a1, a2, a3⟩ := asc_ok f (n + 1) (by omega) h2
      exact ⟨by omega, by omega, a3⟩
def Blk (key : Nat → Int) (p : Array Nat) (n q : Nat) : Prop := q + 1 ≤ n ∧ ∀ k, n - (q + 1) ≤ k → k < n → K' key p k = K' key p (n - 1)
theorem K_alike {p : Array Nat} {n q : Nat} (hn : n ≤ p.size) (h : Blk key p n q) (k : Nat) : K' key (kas_rev p (n - (q + 1)) n) k = K' key p k := by
  rw [K_rev hn]
  have := h.1
  split
  · rw [h.2 _ (by omega) (by omega), h.2 k (by omega) (by omega)]
  · rfl
structure DescOk (key : Nat → Int) (p : Array Nat) (n f : Nat) (r : Array Nat × Nat × Nat) : Prop where
  lo : n ≤ r.2.1
  hi : r.2.1 ≤ n + f
  non : NonT key r.1 r.2.1
  blk : Blk key r.1 r.2.1 r.2.2
  size : r.1.size = p.size
  perm : r.1.Perm p
theorem non_congr {p p' : Array Nat} {n : Nat} (e : ∀ k, K' key p' k = K' key p k) (h : NonT key p n) : NonT key p' n := fun i j a b => by
  rw [e, e]
  exact h i j a b
theorem desc_ok : ∀ (f : Nat) (p : Array Nat) (n q : Nat), n + f ≤ p.size → NonT key p n → Blk key p n q → DescOk key p n f (kasRun (ltK key) (kas_desc f p n q))
  | 0, p, n, q, hs, h, b => ⟨Nat.le_refl _, Nat.le_refl _, h, b, rfl, Array.Perm.refl _⟩
  | f + 1, p, n, q, hs, h, b => by
    have hq := b.1
    rw [kas_desc, run_ask, run_ite]
    have nonS : ∀ {p' : Array Nat}, (∀ k, K' key p' k = K' key p k) → K' key p n ≤ K' key p (n - 1) → NonT key p' (n + 1) := fun {p'} e c i j hij hj => by
      rw [e, e]
      rcases Nat.lt_or_ge j n with z | z
      · exact h i j hij z
      · have : j = n := by omega
        subst this
        rcases Nat.lt_or_ge i j with r | r
        · exact Int.le_trans c (h i (j - 1) (by omega) (by omega))
        · have : i = j := by omega
          rw [this]
          exact Int.le_refl _
    by_cases c : ltK key (p.getD n 0) (p.getD (n - 1) 0) = true
    · rw [if_pos c, run_ite]
      have c' : K' key p n < K' key p (n - 1) := of_decide_eq_true c
      have blk0 : ∀ p' : Array Nat, Blk key p' (n + 1) 0 := fun p' => ⟨by omega, fun k k1 k2 => by rw [show k = n + 1 - 1 by omega]⟩
      by_cases z : q > 0
      · rw [if_pos z]
        have e := K_alike (key := key) (p := p) (n := n) (q := q) (by omega) b
        have d := desc_ok f (kas_rev p (n - (q + 1)) n) (n + 1) 0 (by rw [rev_size]; omega) (nonS e (by omega)) (blk0 _)
        exact ⟨by have := d.lo; omega, by have := d.hi; omega, d.non, d.blk, d.size.trans (rev_size _ _ _), d.perm.trans (rev_perm _ _ _)⟩
      · rw [if_neg z]
        have d := desc_ok f p (n + 1) 0 (by omega) (nonS (fun _ => rfl) (by omega)) (blk0 _)
        exact ⟨by have := d.lo; omega, by have := d.hi; omega, d.non, d.blk, d.size, d.perm⟩
    · rw [if_neg c, run_ask, run_ite]
      have c' : ¬ K' key p n < K' key p (n - 1) := fun w => c (decide_eq_true w)
      by_cases c2 : ltK key (p.getD (n - 1) 0) (p.getD n 0) = true
      · rw [if_pos c2, run_ret]
        exact ⟨Nat.le_refl _, by show n ≤ n + (f + 1); omega, h, b, rfl, Array.Perm.refl _⟩
      · rw [if_neg c2]
        have c3 : ¬ K' key p (n - 1) < K' key p n := fun w => c2 (decide_eq_true w)
        have e : K' key p n = K' key p (n - 1) := by omega
        have blk : Blk key p (n + 1) (q + 1) := ⟨by omega, fun k k1 k2 => by
          rw [show n + 1 - 1 = n by omega]
          rcases Nat.lt_or_ge k n with w | w
          · rw [b.2 k (by omega) w, e]
          · rw [show k = n by omega]⟩
        have d := desc_ok f p (n + 1) (q + 1) (by omega) (nonS (fun _ => rfl) (by omega)) blk
        exact ⟨by have := d.lo; omega, by have := d.hi; omega, d.non, d.blk, d.size, d.perm⟩
structure CountOk (key : Nat → Int) (p : Array Nat) (nrem : Nat) (r : Nat × Array Nat) : Prop where
  lo : 1 ≤ r.1
  hi : r.1 ≤ nrem
  sort : SortT key r.2 r.1
  size : r.2.size = p.size
  perm : r.2.Perm p
theorem tail3_ok {n nrem : Nat} {p : Array Nat} (h1 : 1 ≤ n) (h2 : n ≤ nrem) (hs : nrem ≤ p.size) (h : NonT key p n) : CountOk key p nrem (kasRun (ltK key) (kas_tail3 n nrem p)) := by
  unfold kas_tail3
  rw [run_bind, run_ret]
  have st : SortT key (kas_rev p 0 n) n := fun i j hij hj => by
    rw [K_rev (by omega), K_rev (by omega), if_pos (by omega), if_pos (by omega)]
    exact h _ _ (by omega) (by omega)
  obtain ⟨a1, a2, a3⟩ := asc_ok (nrem - n) n h1 st
  exact ⟨by show 1 ≤ kasRun _ _; omega, by show kasRun _ _ ≤ nrem; omega, a3, rev_size _ _ _, rev_perm _ _ _⟩
theorem descPart_ok {n nrem : Nat} {p : Array Nat} (h1 : 1 ≤ n) (h2 : n + 1 ≤ nrem) (hs : nrem ≤ p.size) (h : NonT key p (n + 1)) : CountOk key p nrem (kasRun (ltK key) (kas_descPart n nrem p)) := by
  unfold kas_descPart
  rw [run_bind]
  have d := desc_ok (nrem - (n + 1)) p (n + 1) 0 (by omega) h ⟨by omega, fun k k1 k2 => by rw [show k = n + 1 - 1 by omega]⟩
  generalize kasRun (ltK key) (kas_desc (nrem - (n + 1)) p (n + 1) 0) = r at d
  have d1 := d.lo
  have d2 := d.hi
  have d3 := d.size
  rw [run_ite]
  split
  · have t := tail3_ok (key := key) (n := r.2.1) (nrem := nrem) (p := kas_rev r.1 (r.2.1 - (r.2.2 + 1)) r.2.1) (by omega) (by omega) (by rw [rev_size]; omega) (non_congr (K_alike (by omega) d.blk) d.non)
    exact ⟨t.lo, t.hi, t.sort, t.size.trans ((rev_size _ _ _).trans d3), t.perm.trans ((rev_perm _ _ _).trans d.perm)⟩
  · have t := tail3_ok (key := key) (n := r.2.1) (nrem := nrem) (p := r.1) (by omega) (by omega) (by omega) d.non
    exact ⟨t.lo, t.hi, t.sort, t.size.trans d3, t.perm.trans d.perm⟩
theorem asc_stop {p : Array Nat} : ∀ (f n : Nat), kasRun (ltK key) (kas_asc p f n) < n + f → K' key p (kasRun (ltK key) (kas_asc p f n)) < K' key p (kasRun (ltK key) (kas_asc p f n) - 1)
  | 0, n, h => by
    have : kasRun (ltK key) (kas_asc p 0 n) = n := rfl
    omega
  | f + 1, n, h => by
    rw [kas_asc, run_ask, run_ite] at h ⊢
    by_cases c : ltK key (p.getD n 0) (p.getD (n - 1) 0) = true
    · rw [if_pos c, run_ret]
      exact of_decide_eq_true c
    · rw [if_neg c] at h ⊢
      exact asc_stop f (n + 1) (by omega)
theorem count_ok {nrem : Nat} {p : Array Nat} (h2 : 2 ≤ nrem) (hs : nrem ≤ p.size) : CountOk key p nrem (kasRun (ltK key) (kas_count nrem p)) := by
  unfold kas_count
  rw [run_bind]
  obtain ⟨a1, a2, a3⟩ := asc_ok (key := key) (p := p) (nrem - 1) 1 (Nat.le_refl _) fun i j hij hj => by
    rw [show i = j by omega]
    exact Int.le_refl _
  have a4 := asc_stop (key := key) (p := p) (nrem - 1) 1
  generalize kasRun (ltK key) (kas_asc p (nrem - 1) 1) = n at a1 a2 a3 a4
  rw [run_ite]
  by_cases e : (n == nrem) = true
  · rw [if_pos e, run_ret]
    exact ⟨a1, by show n ≤ nrem; omega, a3, rfl, Array.Perm.refl _⟩
  · rw [if_neg e]
    have e' : n ≠ nrem := fun z => e (by rw [z]; exact beq_self_eq_true _)
    have a5 := a4 (by omega)
    rw [run_ite]
    by_cases g : n > 1
    · rw [if_pos g, run_ask, run_ite]
      by_cases c : ltK key (p.getD 0 0) (p.getD (n - 1) 0) = true
      · rw [if_pos c, run_ret]
        exact ⟨a1, by show n ≤ nrem; omega, a3, rfl, Array.Perm.refl _⟩
      · rw [if_neg c]
        have c' : ¬ K' key p 0 < K' key p (n - 1) := fun w => c (decide_eq_true w)
        have alike : ∀ k, k < n → K' key p k = K' key p 0 := fun k hk => by
          have b1 := a3 0 k (by omega) hk
          have b2 := a3 k (n - 1) (by omega) (by omega)
          omega
        have d := descPart_ok (key := key) (n := n) (nrem := nrem) (p := kas_rev p 0 n) (by omega) (by omega) (by rw [rev_size]; exact hs) fun i j hij hj => by
          have val : ∀ k, k < n → K' key (kas_rev p 0 n) k = K' key p 0 := fun k hk => by
            rw [K_rev (by omega), if_pos (by omega)]
            exact alike _ (by omega)
          have last : K' key (kas_rev p 0 n) n = K' key p n := by rw [K_rev (by omega), if_neg (by omega)]
          have b0 := alike (n - 1) (by omega)
          rcases Nat.lt_or_ge j n with q | q
          · rw [val j q, val i (by omega)]
            exact Int.le_refl _
          · rw [show j = n by omega, last]
            rcases Nat.lt_or_ge i n with r | r
            · rw [val i r]
              omega
            · rw [show i = n by omega, last]
              exact Int.le_refl _
        exact ⟨d.lo, d.hi, d.sort, d.size.trans (rev_size _ _ _), d.perm.trans (rev_perm _ _ _)⟩
    · rw [if_neg g]
      have n1 : n = 1 := by omega
      subst n1
      refine descPart_ok (by omega) (by omega) hs fun i j hij hj => ?_
      have hc : (i = 0 ∧ j = 0) ∨ (i = 0 ∧ j = 1) ∨ (i = 1 ∧ j = 1) := by omega
      rcases hc with ⟨rfl, rfl⟩ | ⟨rfl, rfl⟩ | ⟨rfl, rfl⟩
      · exact Int.le_refl _
      · exact Int.le_of_lt a5
      · exact Int.le_refl _
theorem place_ok {p : Array Nat} {k : Nat} (hs : SortT key p k) : ∀ (f l r : Nat), l ≤ r → r ≤ k → r - l ≤ f → (∀ i, i < l → K' key p i ≤ K' key p k) → (∀ i, r ≤ i → i < k → K' key p k < K' key p i) →
    kasRun (ltK key) (kas_place p k f l r) ≤ k ∧ (∀ i, i < kasRun (ltK key) (kas_place p k f l r) → K' key p i ≤ K' key p k) ∧ ∀ i, kasRun (ltK key) (kas_place p k f l r) ≤ i → i < k → K' key p k < K' key p i
  | 0, l, r, h1, h2, h3, h4, h5 => by
    rw [kas_place, run_ret]
    exact ⟨by omega, h4, fun i a b => h5 i (by omega) b⟩
  | f + 1, l, r, h1, h2, h3, h4, h5 => by
    rw [kas_place, run_ite]
    by_cases g : l ≥ r
    · rw [if_pos g, run_ret]
      exact ⟨by omega, h4, fun i a b => h5 i (by omega) b⟩
    · rw [if_neg g, run_ask, run_ite]
      by_cases c : ltK key (p.getD k 0) (p.getD ((l + r) / 2) 0) = true
      · rw [if_pos c]
        have c' : K' key p k < K' key p ((l + r) / 2) := of_decide_eq_true c
        refine place_ok hs f l ((l + r) / 2) (by omega) (by omega) (by omega) h4 fun i a b => ?_
        exact Int.lt_of_lt_of_le c' (hs _ _ a b)
      · rw [if_neg c]
        have c' : ¬ K' key p k < K' key p ((l + r) / 2) := fun w => c (decide_eq_true w)
        refine place_ok hs f ((l + r) / 2 + 1) r (by omega) h2 (by omega) (fun i a => ?_) h5
        have := hs i ((l + r) / 2) (by omega) (by omega)
        omega
theorem bin_ok : ∀ (f : Nat) (p : Array Nat) (k : Nat), k + f = p.size → SortT key p k → SortT key (kasRun (ltK key) (kas_bin f p k)) p.size ∧ (kasRun (ltK key) (kas_bin f p k)).Perm p
  | 0, p, k, hk, h => by
    rw [kas_bin, run_ret]
    rw [Nat.add_zero] at hk
    exact ⟨hk ▸ h, Array.Perm.refl _⟩
  | f + 1, p, k, hk, h => by
    rw [kas_bin, run_bind]
    obtain ⟨b1, b2, b3⟩ := place_ok (key := key) h k 0 k (Nat.zero_le _) (Nat.le_refl _) (by omega) (fun i hi => absurd hi (Nat.not_lt_zero _)) fun i a b => by omega
    generalize kasRun (ltK key) (kas_place p k k 0 k) = l at b1 b2 b3
    have sz := bubble_size p k (k - l)
    have st : SortT key (bubble p k (k - l)) (k + 1) := fun i j hij hj => by
      rw [K_bub (by omega) (by omega), K_bub (by omega) (by omega), show k - (k - l) = l by omega]
      by_cases e1 : i = l
      · rw [if_pos e1]
        by_cases e2 : j = l
        · rw [if_pos e2]
          exact Int.le_refl _
        · rw [if_neg e2, if_pos (by omega)]
          exact Int.le_of_lt (b3 _ (by omega) (by omega))
      · rw [if_neg e1]
        by_cases e2 : j = l
        · rw [if_pos e2, if_neg (by omega)]
          exact b2 i (by omega)
        · rw [if_neg e2]
          by_cases e3 : l < i ∧ i ≤ k
          · rw [if_pos e3, if_pos (by omega)]
            exact h _ _ (by omega) (by omega)
          · rw [if_neg e3]
            by_cases e4 : l < j ∧ j ≤ k
            · rw [if_pos e4]
              exact h _ _ (by omega) (by omega)
            · rw [if_neg e4]
              exact h _ _ hij (by omega)
    obtain ⟨c1, c2⟩ := bin_ok f (bubble p k (k - l)) (k + 1) (by omega) st
    rw [sz] at c1
    exact ⟨c1, c2.trans (bubble_perm _ _ _)⟩
theorem sort_ok {n : Nat} (h2 : 2 ≤ n) : SortT key (kasRun (ltK key) (kas_sort n)) n ∧ (kasRun (ltK key) (kas_sort n)).Perm (List.toArray (List.range n)) := by
  unfold kas_sort
  rw [run_bind]
  have sz : (List.toArray (List.range n)).size = n := by rw [List.size_toArray, List.length_range]
  have c := count_ok (key := key) (p := List.toArray (List.range n)) h2 (by rw [sz]; exact Nat.le_refl _)
  generalize kasRun (ltK key) (kas_count n (List.toArray (List.range n))) = r at c
  have c1 := c.lo
  have c2 := c.hi
  have c3 := c.size
  rw [sz] at c3
  rw [run_ite]
  split
  · rw [show max r.1 1 = r.1 by omega]
    obtain ⟨d1, d2⟩ := bin_ok (key := key) (n - r.1) r.2 r.1 (by omega) c.sort
    rw [c3] at d1
    exact ⟨d1, d2.trans c.perm⟩
  · rw [run_ret]
    have : r.1 = n := by omega
    exact ⟨this ▸ c.sort, c.perm⟩
end
end L2
namespace L2
open PySem PySem.Spec PyProof.Rows PySem.W
def Safe {α : Type} (n : Nat) (P : α → Prop) : KasT α → Prop
  | .ret a => P a
  | .ask i j k => i < n ∧ j < n ∧ ∀ b, Safe n P (k b)
theorem Safe.bind {α β : Type} {n : Nat} {P : α → Prop} {Q : β → Prop} {f : α → KasT β} : ∀ {t : KasT α}, Safe n P t → (∀ a, P a → Safe n Q (f a)) → Safe n Q (t.bind f)
  | .ret a, h, g => g a h
  | .ask i j k, h, g => ⟨h.1, h.2.1, fun b => Safe.bind (h.2.2 b) g⟩
theorem Safe.ite {α : Type} {n : Nat} {P : α → Prop} {c : Prop} [Decidable c] {a b : KasT α} (h1 : c → Safe n P a) (h2 : ¬ c → Safe n P b) : Safe n P (if c then a else b) := by
  by_cases h : c
  · rw [if_pos h]
    exact h1 h
  · rw [if_neg h]
    exact h2 h
theorem Safe.wp {α : Type} {n : Nat} {P : α → Prop} {lt : Nat → Nat → Bool} {cmp : Nat → Nat → (Bool → Shared → Prop) → Shared → Prop} {Q : α → Shared → Prop} {s : Shared} (hc : ∀ i j C, i < n → j < n → C (lt i j) s → cmp i j C s) : ∀ {t : KasT α}, Safe n P t → Q (kasRun lt t) s → t.kasWp cmp Q s
  | .ret a, _, q => q
  | .ask i j k, h, q => hc i j _ h.1 h.2.1 (Safe.wp hc (h.2.2 (lt i j)) q)
def AllLt (n : Nat) (p : Array Nat) : Prop := 0 < n ∧ ∀ x ∈ p.toList, x < n
theorem AllLt.at {n : Nat} {p : Array Nat} (h : AllLt n p) (i : Nat) : p.getD i 0 < n := by
  rw [Array.getD_eq_getD_getElem?]
  cases e : p[i]? with
  | none => exact h.1
  | some x => exact h.2 x (by rw [← Array.getElem?_toList] at e; exact List.mem_of_getElem? e)
theorem AllLt.perm {n : Nat} {p q : Array Nat} (h : AllLt n p) (e : q.Perm p) : AllLt n q := ⟨h.1, fun x hx => h.2 x (e.toList.mem_iff.mp hx)⟩
theorem asc_safe {n : Nat} {p : Array Nat} (h : AllLt n p) : ∀ (f m : Nat), Safe n (fun _ => True) (kas_asc p f m)
  | 0, m => trivial
  | f + 1, m => ⟨h.at _, h.at _, fun b => Safe.ite (fun _ => trivial) fun _ => asc_safe h f (m + 1)⟩
theorem desc_safe {n : Nat} : ∀ (f : Nat) (p : Array Nat) (m q : Nat), AllLt n p → Safe n (fun r => AllLt n r.1) (kas_desc f p m q)
  | 0, p, m, q, h => h
  | f + 1, p, m, q, h => ⟨h.at _, h.at _, fun b => Safe.ite (fun _ => Safe.ite (fun _ => desc_safe f _ _ _ (h.perm (rev_perm _ _ _))) fun _ => desc_safe f _ _ _ h) fun _ => ⟨h.at _, h.at _, fun b => Safe.ite (fun _ => h) fun _ => desc_safe f _ _ _ h⟩⟩
theorem tail3_safe {n a b : Nat} {p : Array Nat} (h : AllLt n p) : Safe n (fun r => AllLt n r.2) (kas_tail3 a b p) := Safe.bind (asc_safe (h.perm (rev_perm _ _ _)) _ _) fun _ _ => h.perm (rev_perm _ _ _)
theorem descPart_safe {n a b : Nat} {p : Array Nat} (h : AllLt n p) : Safe n (fun r => AllLt n r.2) (kas_descPart a b p) := Safe.bind (desc_safe _ _ _ _ h) fun r hr => Safe.ite (fun _ => tail3_safe (hr.perm (rev_perm _ _ _))) fun _ => tail3_safe hr
theorem count_safe {n b : Nat} {p : Array Nat} (h : AllLt n p) : Safe n (fun r => AllLt n r.2) (kas_count b p) :=
  Safe.bind (asc_safe h _ _) fun a _ => Safe.ite (fun _ => h) fun _ => Safe.ite (fun _ => ⟨h.at _, h.at _, fun b => Safe.ite (fun _ => h) fun _ => descPart_safe (h.perm (rev_perm _ _ _))⟩) fun _ => descPart_safe h
theorem place_safe {n : Nat} {p : Array Nat} {k : Nat} (h : AllLt n p) : ∀ f l r : Nat, Safe n (fun _ => True) (kas_place p k f l r)
  | 0, l, r => trivial
  | f + 1, l, r => Safe.ite (fun _ => trivial) fun _ => ⟨h.at _, h.at _, fun b => Safe.ite (fun _ => place_safe h f _ _) fun _ => place_safe h f _ _⟩
theorem bin_safe {n : Nat} : ∀ (f : Nat) (p : Array Nat) (k : Nat), AllLt n p → Safe n (fun _ => True) (kas_bin f p k)
  | 0, p, k, h => trivial
  | f + 1, p, k, h => Safe.bind (place_safe h _ _ _) fun l _ => bin_safe f _ _ (h.perm (bubble_perm _ _ _))
theorem sort_safe {n : Nat} (h : 0 < n) : Safe n (fun _ => True) (kas_sort n) :=
  Safe.bind (count_safe ⟨h, fun x hx => List.mem_range.mp (by simpa using hx)⟩) fun r hr => Safe.ite (fun _ => bin_safe _ _ _ hr) fun _ => trivial
end L2
namespace L2
open PySem PySem.Spec PyProof.Rows PySem.W
section
variable {prog : Program} {w : World} {A : Around} {E : Value → Shared → Prop} {s : Shared}
def outOf (lt : Nat → Nat → Bool) (vs : List Value) : List Value := if vs.length < 2 then vs else (kasRun lt (kas_sort vs.length)).toList.map fun i => vs.getD i Value.none
end
end L2
namespace L2
open PySem PySem.Spec PyProof.Rows PySem.W
def IsTh (x : Str) (k : Int) : Prop := (x = "warp" ∨ x = "weft") ∧ 0 ≤ k ∧ k < 1000000
section
variable {prog : Program} {w : World} {A : Around} {E : Value → Shared → Prop} {s : Shared}
end
def outV {α : Type} (lt : Nat → Nat → Bool) (d : α) (vs : List α) : List α := if vs.length < 2 then vs else (kasRun lt (kas_sort vs.length)).toList.map fun i => vs.getD i d
theorem vals_getD {xs : List V} {us : List Value} (h : Vals xs us) (i : Nat) : RelV (xs.getD i .non) (us.getD i .none) := by
  rw [List.getD_eq_getElem?_getD, List.getD_eq_getElem?_getD]
  cases e : xs[i]? with
  | some v =>
    obtain ⟨u, hu, r⟩ := h.get e
    rw [hu]
    exact r
  | none =>
    have : us[i]? = none := by
      have hl := h.length
      rw [List.getElem?_eq_none_iff] at e ⊢
      omega
    rw [this]
    rfl
theorem vals_out {lt : Nat → Nat → Bool} {xs : List V} {us : List Value} (h : Vals xs us) : Vals (outV lt .non xs) (outOf lt us) := by
  unfold outV outOf
  rw [h.length]
  split
  · exact h
  · generalize (kasRun lt (kas_sort us.length)).toList = p
    induction p with
    | nil => exact .nil
    | cons i p ih => exact .cons (vals_getD h i) ih
theorem len_out {α : Type} {lt : Nat → Nat → Bool} {d : α} {vs : List α} {key : Nat → Int} (he : lt = ltK key) : (outV lt d vs).length = vs.length := by
  unfold outV
  split
  · rfl
  · subst he
    rw [List.length_map]
    have := (sort_ok (key := key) (n := vs.length) (by omega)).2.size_eq
    simpa using this
section
variable {X : Cx}
end
end L2
namespace DL
open PySem PySem.Spec L2
section
variable {X : Cx} {K : PySem.W.Frag} {mg : Str → Option Value} {ww : World}
theorem isDs_getD {Hh : Hp} {l : List D} {xs : List V} (h : IsDs K mg ww Hh l xs) (i : Nat) : IsD K mg ww Hh (l.getD i .non) (xs.getD i .non) := by
  rw [List.getD_eq_getElem?_getD, List.getD_eq_getElem?_getD]
  cases e : l[i]? with
  | some d =>
    obtain ⟨x, hx, r⟩ := h.atD e
    rw [hx]
    exact r
  | none =>
    have : xs[i]? = none := by
      have hl := h.len
      rw [List.getElem?_eq_none_iff] at e ⊢
      omega
    rw [this]
    show IsD K mg ww Hh .non .non
    rw [IsD]
theorem isDs_out {Hh : Hp} {lt : Nat → Nat → Bool} {l : List D} {xs : List V} (h : IsDs K mg ww Hh l xs) : IsDs K mg ww Hh (outV lt .non l) (outV lt .non xs) := by
  unfold outV
  rw [h.len]
  split
  · exact h
  · generalize (kasRun lt (PySem.W.kas_sort l.length)).toList = p
    induction p with
    | nil => exact IsDs.nil
    | cons i p ih => exact IsDs.cons (isDs_getD h i) ih
end
end DL
namespace L2
open PySem PySem.Spec PyProof.Rows PySem.W
section
variable {prog : Program} {w : World} {A : Around} {E : Value → Shared → Prop} {s : Shared}
theorem sortK_any {a : Addr} {vs : List Value} {n : Nat} {P : PySem.Fin → Shared → Prop} {f : Value} {kz : List Int} (ho : s.heap.get? a = some (seqObj "list" vs.toArray n)) (h64 : vs.length < 64) (hkz : kz.length = vs.length)
    (turn : ∀ (i : Nat) (v : Value) (k : Int), vs[i]? = some v → kz[i]? = some k → ∀ (s1 : Shared), (∀ b o, b ≠ a → s.heap.get? b = some o → s1.heap.get? b = some o) → ∀ (Q : Value → Shared → Prop) (E : Value → Shared → Prop), (∀ t tk, Q (.int k t) { s1 with toks := tk }) → wpAny (model prog w) A (call f [v]) Q E s1)
    (h : ∀ h' tk e, (∀ b o, b ≠ a → s.heap.get? b = some o → h'.get? b = some o) → h'.get? a = some (seqObj "list" (outOf (ltK fun i => kz.getD i 0) vs).toArray e) → P (.done (.ret .none)) { s with heap := h', toks := tk }) : wpAny (model prog w) A (ksk_tree a f false) P E s := by
  unfold ksk_tree
  have ha : a < s.heap.objs.size := Heap.lt_size ho
  refine wpAny_bind (listItems_at ho rfl ?_)
  refine wpAny_bind (listUpdate_at ho rfl ?_)
  obtain ⟨e1, ho1⟩ : ∃ e1, (s.heap.update a (Obj.mapSeq fun _ => #[])).get? a = some (seqObj "list" #[] e1) := ⟨_, get?_update_seq ho (fun _ => #[])⟩
  refine wpAny_bind (seqEpoch_at ho1 rfl ?_)
  refine wpAny_bind (wpAny_newTuple ?_)
  refine wpAny_bind (wpAny_newList ?_)
  refine wpAny_holding ?_
  have sz5 : ((s.heap.update a (Obj.mapSeq fun _ => #[])).push (seqObj "tuple" vs.toArray 0)).objs.size = s.heap.objs.size + 1 := by rw [size_push', Heap.size_update]
  have ho6 : (((s.heap.update a (Obj.mapSeq fun _ => #[])).push (seqObj "tuple" vs.toArray 0)).push (seqObj "list" #[] 0)).get? a = some (seqObj "list" #[] e1) := by
    rw [Heap.get?_push_ne _ _ _ (by rw [sz5]; exact Nat.ne_of_lt (Nat.lt_succ_of_lt ha)), Heap.get?_push_ne _ _ _ (by rw [Heap.size_update]; exact Nat.ne_of_lt ha)]
    exact ho1
  have hoS : (((s.heap.update a (Obj.mapSeq fun _ => #[])).push (seqObj "tuple" vs.toArray 0)).push (seqObj "list" #[] 0)).get? (s.heap.objs.size + 1) = some (seqObj "list" #[] 0) := by
    rw [← sz5]; exact Heap.get?_push_size _ rfl
  have keep : ∀ b o, b ≠ a → s.heap.get? b = some o → b ≠ s.heap.objs.size + 1 ∧ (((s.heap.update a (Obj.mapSeq fun _ => #[])).push (seqObj "tuple" vs.toArray 0)).push (seqObj "list" #[] 0)).get? b = some o := fun b o hb e =>
    ⟨Nat.ne_of_lt (Nat.lt_succ_of_lt (Heap.lt_size e)), Heap.get?_push_of_some _ (Heap.get?_push_of_some _ ((Heap.get?_update_other _ _ (Ne.symm hb)).trans e))⟩
  have aS : a ≠ s.heap.objs.size + 1 := Nat.ne_of_lt (Nat.lt_succ_of_lt ha)
  show wpAny (model prog w) A (ksk_rest a f false vs.toArray e1 (.ref ((s.heap.update a (Obj.mapSeq fun _ => #[])).push (seqObj "tuple" vs.toArray 0)).objs.size)) P E { s with heap := ((s.heap.update a (Obj.mapSeq fun _ => #[])).push (seqObj "tuple" vs.toArray 0)).push (seqObj "list" #[] 0) }
  rw [sz5]
  generalize ((s.heap.update a (Obj.mapSeq fun _ => #[])).push (seqObj "tuple" vs.toArray 0)).push (seqObj "list" #[] 0) = h6 at *
  generalize s.heap.objs.size + 1 = kS at *
  unfold ksk_rest
  refine wpAny_bind (wpAny_rule ?_)
  first
    | rw [List.forIn_toArray]
    | (rw [← Array.forIn_toList]; simp only [List.toList_toArray])
    | rw [← Array.forIn_toList]
  refine wpAny_bind (ksk_fold (fun i s' => ∃ h' tk kA e, s' = { s with heap := h', toks := tk } ∧ (∀ b o, b ≠ a → s.heap.get? b = some o → b ≠ kS ∧ h'.get? b = some o) ∧ h'.get? a = some (seqObj "list" #[] e1) ∧ h'.get? kS = some (seqObj "list" kA e) ∧ IntsAre kA.toList (kz.take i)) vs 0 _
    ⟨h6, s.toks, #[], 0, rfl, keep, ho6, hoS, by simpa using IntsAre.nil⟩ ?step ?done)
  case step =>
    rintro j x s' hx ⟨h', tk, kA, e, rfl, k1, k2, k3, hk⟩
    simp only [Nat.zero_add] at hk ⊢
    have hj : j < vs.length := (List.getElem?_eq_some_iff.mp hx).1
    obtain ⟨k, hkj⟩ : ∃ k, kz[j]? = some k := ⟨_, List.getElem?_eq_getElem (by omega)⟩
    have hz : kA.size ≤ vs.length := by
      have h1 := hk.length
      rw [Array.length_toList, List.length_take] at h1
      omega
    refine wpAny_bind (wpAny_attempt (turn j x k hx hkj _ (fun b o hb q => (k1 b o hb q).2) _ _ fun t tk' => ?_))
    dsimp only
    refine wpAny_bind (listUpdate_at k3 rfl ?_ (hsz := by rw [sizeLine_eq]; omega) (hsz2 := by rw [Array.size_push, sizeLine_eq]; omega))
    refine wpAny_pure ⟨rfl, _, tk', kA.push (.int k t), _, rfl, fun b o hb q => ⟨(k1 b o hb q).1, (Heap.get?_update_other _ _ (Ne.symm (k1 b o hb q).1)).trans (k1 b o hb q).2⟩, (Heap.get?_update_other _ _ (Ne.symm aS)).trans k2, get?_update_seq k3 (·.push (.int k t)), ?_⟩
    have e2 : kz.take (j + 1) = kz.take j ++ [k] := by rw [List.take_succ, hkj]; rfl
    rw [e2, Array.toList_push]
    exact ksk_snoc hk
  case done =>
    rintro s' ⟨h', tk, kA, e, rfl, k1, k2, k3, hk⟩
    rw [Nat.zero_add, List.take_of_length_le (by omega)] at hk
    have hks : kA.size = vs.length := by
      have h1 := hk.length
      rw [Array.length_toList] at h1
      omega
    refine wpAny_bind (listItems_at k3 rfl ?_)
    have fin : ∀ st' : SortSt, failedOf st' = none → (arrOf st').map (·.2) = (outOf (ltK fun i => kz.getD i 0) vs).toArray → (arrOf st').size = vs.length → wpAny (model prog w) A (ksk_tail a false e1 (.ref kS) st') P E { s with heap := h', toks := tk } := fun st' hf eo es => by
      unfold ksk_tail
      refine wpAny_bind (listUpdate_at k3 rfl ?_ (hsz := by rw [sizeLine_eq]; omega))
      refine wpAny_bind (wpAny_letGo ?_)
      have k2' : (h'.update kS (Obj.mapSeq fun _ => #[])).get? a = some (seqObj "list" #[] e1) := (Heap.get?_update_other _ _ (Ne.symm aS)).trans k2
      refine wpAny_bind (seqEpoch_at k2' rfl ?_)
      refine wpAny_bind (listUpdate_at k2' rfl ?_ (hsz2 := by simp only [Bool.false_eq_true, if_false]; rw [Array.size_map, es, sizeLine_eq]; omega))
      rw [hf]
      simp only [bne_self_eq_false, Bool.false_eq_true, if_false]
      rw [eo]
      refine wpAny_pure (h _ tk _ (fun b o hb q => ?_) (get?_update_seq k2' fun _ => (outOf (ltK fun i => kz.getD i 0) vs).toArray))
      exact (Heap.get?_update_other _ _ (Ne.symm hb)).trans ((Heap.get?_update_other _ _ (Ne.symm (k1 b o hb q).1)).trans (k1 b o hb q).2)
    unfold ksk_end
    simp only [Bool.false_eq_true, if_false]
    have hsz : vs.toArray.size = vs.length := by simp
    by_cases h2 : vs.toArray.size < 2
    · rw [if_pos h2, if_pos h2]
      refine wpAny_bind (wpAny_pure ?_)
      rw [StateT.run_pure]
      refine wpAny_bind (wpAny_pure ?_)
      refine fin _ rfl ?_ ?_
      · have eo : outOf (ltK fun i => kz.getD i 0) vs = vs := by unfold outOf; rw [if_pos (by omega)]
        rw [eo]
        show (kA.zip vs.toArray).map (·.2) = vs.toArray
        apply Array.toList_inj.mp
        rw [Array.toList_map, Array.toList_zip, List.map_snd_zip (by rw [Array.length_toList]; simp; omega)]
      · show (kA.zip vs.toArray).size = vs.length
        rw [Array.size_zip, hks, hsz, Nat.min_self]
    · rw [if_neg h2, if_neg h2, ksk_kind hk (by omega)]
      refine wpAny_bind (wpAny_pure ?_)
      have ek : kA = kA.toList.toArray := by rw [Array.toArray_toList]
      have hkl : kA.toList.length = vs.length := by rw [Array.length_toList]; exact hks
      rw [ek]
      refine wpAny_bind (wpAny_mono (kat_run (κ := oneType') (ks := kA.toList) (vs := vs) (G := fun p s' => p = kasRun (ltK fun i => kz.getD i 0) (kas_sort vs.length) ∧ s' = { s with heap := h', toks := tk })
        (Q := fun st' s' => s' = { s with heap := h', toks := tk } ∧ failedOf st' = none ∧ (arrOf st').map (·.2) = (outOf (ltK fun i => kz.getD i 0) vs).toArray ∧ (arrOf st').size = vs.length) hkl (by omega) h64 (fun p st' s' hp har hf hg => ?_) (Safe.wp (fun i j C hi hj hC => ?_) (sort_safe (by omega)) ⟨rfl, rfl⟩)) ?_ fun _ _ e => e)
      · obtain ⟨rfl, rfl⟩ := hg
        refine ⟨rfl, hf, ?_, by rw [har, Array.size_map, hp]⟩
        rw [kat_snds hkl har]
        unfold outOf
        rw [if_neg (by omega)]
      · unfold kas_ask
        have at' : ∀ i, i < vs.length → ∃ t, kA.toList.getD i Value.none = .int (kz.getD i 0) t := fun i hi => by
          have gen : ∀ {us : List Value} {ns : List Int}, IntsAre us ns → ∀ i, i < us.length → ∃ t, us.getD i Value.none = .int (ns.getD i 0) t := by
            intro us ns h
            induction h with
            | nil => intro i hi; exact absurd hi (Nat.not_lt_zero _)
            | cons n t h ih =>
              intro i hi
              cases i with
              | zero => exact ⟨t, rfl⟩
              | succ i =>
                obtain ⟨t', e'⟩ := ih i (by simpa using hi)
                exact ⟨t', by simpa using e'⟩
          exact gen hk i (by omega)
        obtain ⟨t1, g1⟩ := at' i hi
        obtain ⟨t2, g2⟩ := at' j hj
        rw [g1, g2]
        exact kat_lt_int hC
      · rintro ⟨⟨⟩, st'⟩ s' ⟨rfl, hf, eo, es⟩
        exact fin st' hf eo es
end
end L2
namespace L2
open PySem PySem.Spec PyProof.Rows PySem.W
section
variable {prog : Program} {w : World} {A : Around} {E : Value → Shared → Prop} {s : Shared}
theorem sortedK_any {l : Addr} {vs : List Value} {Q : Value → Shared → Prop} {kz : List Int} {id : String} (hl : s.heap.IsList l vs.toArray) (h64 : vs.length < 64) (hkz : kz.length = vs.length)
    (turn : ∀ (i : Nat) (v : Value) (k : Int), vs[i]? = some v → kz[i]? = some k → ∀ (s1 : Shared), (∀ b o, s.heap.get? b = some o → s1.heap.get? b = some o) → ∀ (Q : Value → Shared → Prop) (E : Value → Shared → Prop), (∀ t tk, Q (.int k t) { s1 with toks := tk }) → wpAny (model prog w) A.in1.in1 (call (.builtin id) [v]) Q E s1)
    (h : ∀ h' tk e, (∀ b o, s.heap.get? b = some o → h'.get? b = some o) → h'.get? (s.heap.objs.size + 1) = some (seqObj "list" (outOf (ltK fun i => kz.getD i 0) vs).toArray e) → Q (.ref (s.heap.objs.size + 1)) { s with heap := h', toks := tk }) :
    wpAny (model prog w) A (call (.builtin "sorted") [.ref l] [(Str.ofString "key", .builtin id)]) Q E s := by
  refine call_function_entry_kw kind_sorted plain_sorted entry_sorted (ksk_s1 _ _) ?_
  unfold Builtin.«sorted»
  refine wpAny_bind (m := checkCount "sorted" 1 1 _) (wpAny_pure ?_)
  refine wpAny_bind (collect_list hl ?_ (by rw [sizeLine_eq]; omega))
  refine wpAny_bind (wpAny_newList ?_ (by rw [sizeLine_eq]; omega))
  have hsz : ((s.heap.push (seqObj "list" #[] 0)).update s.heap.objs.size (Obj.mapSeq (· ++ vs.toArray))).objs.size = s.heap.objs.size + 1 := by
    rw [Heap.size_update, size_push']
  have hoL : (((s.heap.push (seqObj "list" #[] 0)).update s.heap.objs.size (Obj.mapSeq (· ++ vs.toArray))).push (seqObj "list" vs.toArray 0)).get? (s.heap.objs.size + 1) = some (seqObj "list" vs.toArray 0) := by
    rw [← hsz]; exact Heap.get?_push_size _ rfl
  have keep : ∀ b o, s.heap.get? b = some o → b ≠ s.heap.objs.size + 1 ∧ (((s.heap.push (seqObj "list" #[] 0)).update s.heap.objs.size (Obj.mapSeq (· ++ vs.toArray))).push (seqObj "list" vs.toArray 0)).get? b = some o := fun b o q => by
    have hlt : b < s.heap.objs.size := Heap.lt_size q
    refine ⟨Nat.ne_of_lt (Nat.lt_succ_of_lt hlt), ?_⟩
    rw [Heap.get?_push_ne _ _ _ (by rw [hsz]; exact Nat.ne_of_lt (Nat.lt_succ_of_lt hlt)), Heap.get?_update_ne _ _ _ _ (Nat.ne_of_lt hlt), Heap.get?_push_ne _ _ _ (Nat.ne_of_lt hlt)]
    exact q
  show wpAny _ _ _ _ _ { s with heap := ((s.heap.push (seqObj "list" #[] 0)).update s.heap.objs.size (Obj.mapSeq (· ++ vs.toArray))).push (seqObj "list" vs.toArray 0) }
  rw [hsz]
  refine wpAny_bind (wpAny_holding (wpAny_call_entry_kw slot_list_sort ⟨_, hoL, rfl⟩ entry_list_sort ?body (ksk_l1 _ _)))
  case body =>
    show wpAny (model prog w) A.in1.in1 (Builtin.«list.sort» ⟨[.ref (s.heap.objs.size + 1)], [(Str.ofString "key", .builtin id)]⟩) _ _ _
    rw [ksk_t4]
    refine sortK_any hoL h64 hkz (fun i v k e1 e2 s1 kp => turn i v k e1 e2 s1 fun b o q => kp b o (keep b o q).1 (keep b o q).2) fun h' tk e kp he => ⟨_, rfl, ?_⟩
    exact wpAny_pure ⟨_, rfl, h h' tk e (fun b o q => kp b o (keep b o q).1 (keep b o q).2) he⟩
end
def rSortLen (K : PySem.W.Frag) : List V → Hp → VK → Prop := fun xs H Q => ∃ (p : Addr) (bs : List Addr) (l : List (List V)), xs = [.ref p] ∧ SqL K H p (bs.map V.ref) ∧ Paired (fun b ys => SqT K H b ys) bs l ∧ l.length < 64 ∧
  ∀ a, H a = none → Q (.ref a) (upd H a (.lst (outV (ltK fun i => (l.map fun ys => (ys.length : Int)).getD i 0) V.non (bs.map V.ref))))
section
variable {X : Cx}
theorem pe_sortLen {p p2 kp pos : Pos} {e : Expr} {t : TA} (hm : X.mg "sorted" = none) (hm2 : X.mg "len" = none) (ha : PA X [e] t) (hg : Gl X "sorted" := by rfl) (hg2 : Gl X "len" := by rfl)
    (he : backTo pos (starEach [e] X.env) = (false, eval e X.env) :: backTo pos (starEach [] X.env) := by rfl) (hpl : (backTo pos (starEach [e] X.env)).any (·.1) = false := by rfl) :
    PE X (.Call (.Name "sorted" p) [e] [⟨some "key", .Name "len" p2, kp⟩] pos) (tCB (rSortLen X.K) t) := by
  intro pins s σ H Q I h
  refine wpAny_Call_Name_kw (ld_blt I hg hm Wv.bt_sorted ?_)
  refine callWith_kw (thn (ha pos pins s σ H _ I h) fun us s1 ⟨vs, H1, I1, r1, q1⟩ => kws_cons (ld_blt I1 hg2 hm2 Wv.bt_len (kws_nil ?_))) he hpl
  obtain ⟨p, bs, l, rfl, hq, hp, h64, q⟩ := q1
  obtain ⟨u, rfl, rx⟩ := vals1 r1
  cases (show u = Value.ref p from rx)
  obtain ⟨its, rv, pl, hz⟩ := I1.list hq
  have hl := rv.length
  have hbl := Paired.length hp
  rw [List.length_map] at hl
  show wpAny (model X.prog X.w) X.A (call (.builtin "sorted") [.ref p] [(Str.ofString "key", .builtin "len")]) _ _ s1
  have raw : ∀ {bs : List Addr} {l : List (List V)} {its : List Value}, Paired (fun b ys => SqT X.K H1 b ys) bs l → Vals (bs.map V.ref) its → ∀ (i : Nat) (v : Value) (k : Int), its[i]? = some v → (l.map fun ys => (ys.length : Int))[i]? = some k → ∃ (b : Addr) (ti : List Value), v = .ref b ∧ IsTup s1.heap b ti.toArray ∧ (ti.length : Int) = k ∧ ti.length ≤ sizeLine := by
    intro bs l its hp rv
    induction hp generalizing its with
    | nil => cases rv; intro i v k h1; simp at h1
    | @cons b ys bs l h1 hp ih =>
      cases rv with
      | @cons _ u _ us' r1 rs =>
        cases (show u = Value.ref b from r1)
        intro i v k e1 e2
        cases i with
        | zero =>
          simp at e1 e2
          subst e1 e2
          obtain ⟨ti, tr, ht, tz⟩ := I1.tuple h1
          exact ⟨b, ti, rfl, ht, by rw [tr.length], by rw [← tr.length]; exact tz⟩
        | succ i => exact ih rs i v k (by simpa using e1) (by simpa using e2)
  have rawI := raw hp rv
  refine sortedK_any (kz := l.map fun ys => (ys.length : Int)) pl.isList (by omega) (by rw [List.length_map]; omega) (fun i v k e1 e2 s2 kp Q' E' hq' => ?_) fun h' tk e kp he => ?_
  · obtain ⟨b, ti, rfl, ⟨o, ho, hc, n, hd⟩, hk, hz⟩ := rawI i v k e1 e2
    have hn := line63
    have hs := sizeLine_eq
    refine len_tuple (s := s2) ⟨o, kp _ _ ho, hc, n, hd⟩ (by simp only [List.size_toArray] <;> omega) ?_
    rw [List.size_toArray, hk]
    exact hq' _ _
  · have I2 := I1.laid (h' := h') (a := s1.heap.objs.size + 1) (o := .lst (outV (ltK fun i => (l.map fun ys => (ys.length : Int)).getD i 0) V.non (bs.map V.ref))) (t' := tk) kp (Nat.le_succ _)
      ⟨by rw [len_out rfl, List.length_map, hbl]; exact Nat.le_trans (Nat.le_of_lt h64) (by decide), _, e, vals_out rv, he⟩
    exact ⟨.ref (s1.heap.objs.size + 1), _, I2, rfl, q _ (I1.hok.fresh (Nat.le_succ _))⟩
end
end L2
namespace DL
open PySem PySem.Spec L2
def tupLens : List D → Option (List Int)
  | [] => some []
  | .tup l :: r => match tupLens r with
    | some q => some ((l.length : Int) :: q)
    | none => none
  | _ => none
def sortedLen : List D → R D
  | [.lst l] => match tupLens l with
    | some ns => if ns.length < 64 then .ok (.lst (outV (ltK fun i => ns.getD i 0) .non l)) else .bad
    | none => .bad
  | _ => .bad
section
variable {X : Cx} {K : PySem.W.Frag} {mg : Str → Option Value} {ww : World} {E : XK} {ow : List Bool}
theorem lens_pair {Hh H : Hp} (s : Same Hh H) : ∀ {l : List D} {xs : List V} {ns : List Int}, tupLens l = some ns → IsDs K mg ww Hh l xs → ∃ (bs : List Addr) (ys : List (List V)), xs = bs.map V.ref ∧ Paired (fun b y => SqT K H b y) bs ys ∧ ys.map (fun y => (y.length : Int)) = ns
  | [], xs, ns, h, hi => by
    cases h
    rw [hi.nil']
    exact ⟨[], [], rfl, .nil, rfl⟩
  | .tup d :: l, xs, ns, h, hi => by
    obtain ⟨x, r, rfl, h1, h2⟩ := hi.uncons
    rw [tupLens] at h
    split at h
    · rename_i q hq
      cases h
      obtain ⟨bs, ys, rfl, hp, he⟩ := lens_pair s hq h2
      rw [IsD] at h1
      obtain ⟨a, zs, rfl, h3, h4⟩ := h1
      exact ⟨a :: bs, zs :: ys, rfl, .cons (s.seqT h3) hp, by rw [List.map_cons, he, h4.len]⟩
    · cases h
  | .non :: _, _, _, h, _ | .bl _ :: _, _, _, h, _ | .int _ :: _, _, _, h, _ | .str _ :: _, _, _, h, _ | .lst _ :: _, _, _, h, _ | .dct _ _ :: _, _, _, h, _ | .exc _ :: _, _, _, h, _ | .scr _ :: _, _, _, h, _ => by simp [tupLens] at h
theorem o_sortedLen : OpN K mg ww .f (rSortLen K) sortedLen := by
  intro E os H xs ds Q dm hp o
  unfold sortedLen at o
  split at o
  · split at o
    · rename_i l ns hns
      split at o
      · rename_i h64
        obtain ⟨x, rfl, hx⟩ := pair1 hp
        obtain ⟨p, ys, rfl, h1, h2⟩ := hx.lst
        obtain ⟨bs, zs, rfl, hpr, he⟩ := lens_pair hide_le hns h2
        subst he
        rw [List.length_map] at h64
        exact ⟨p, bs, zs, rfl, SqL.of h1, hpr, h64, fun a ha => o _ _ (Wv.same_new ha) (new_f ha (isDs_out h2))⟩
      · exact o.elim
    · exact o.elim
  · exact o.elim
theorem e_sortLen {p p2 kp pos : Pos} {e : Expr} {ms : Ev → R (List D)} (hm : X.mg "sorted" = none) (hm2 : X.mg "len" = none) (ha : PA X [e] (tA K mg ww .b E ow ms)) (hK : X.K = K := by rfl) (hg : Gl X "sorted" := by rfl) (hg2 : Gl X "len" := by rfl)
    (he : backTo pos (starEach [e] X.env) = (false, eval e X.env) :: backTo pos (starEach [] X.env) := by rfl) (hpl : (backTo pos (starEach [e] X.env)).any (·.1) = false := by rfl) :
    PE X (.Call (.Name "sorted" p) [e] [⟨some "key", .Name "len" p2, kp⟩] pos) (tE K mg ww .f E ow (mFn sortedLen ms)) := by
  subst hK
  exact (pe_sortLen hm hm2 ha hg hg2 he hpl).mono fun σ H Q h => fn_go o_sortedLen h
end
end DL
namespace L2
open PySem PySem.Spec PyProof.Rows
end L2
namespace DL
open PySem PySem.Spec L2
def sameB (neg : Bool) (d e : D) : R D := match d, e with
  | .bl a, .bl b => .ok (.bl (if neg = true then !decide (a = b) else decide (a = b)))
  | _, _ => .bad
end DL
namespace L2
open PySem PySem.Spec PyProof.Rows PySem.W
section
variable {key : Nat → Int} {N : Nat}
def k2 (key : Nat → Int) (N : Nat) (i : Nat) : Int := key i * (N : Int) + (i : Int)
def idK (i : Nat) : Int := (i : Int)
theorem k2_is (p : Array Nat) (x : Nat) : K' (k2 key N) p x = K' key p x * (N : Int) + K' idK p x := rfl
theorem mulN {a b : Int} (h : a < b) : a * (N : Int) + (N : Int) ≤ b * (N : Int) := by
  have : (a + 1) * (N : Int) ≤ b * (N : Int) := Int.mul_le_mul_of_nonneg_right (by omega) (by omega)
  rw [Int.add_mul, Int.one_mul] at this
  exact this
structure Tl (p : Array Nat) (n N : Nat) : Prop where
  size : p.size = N
  tail : ∀ j, n ≤ j → j < N → K' idK p j = (j : Int)
  pre : ∀ i, i < n → K' idK p i < (n : Int)
theorem Tl.next {p : Array Nat} {n : Nat} (h : Tl p n N) (hn : n < N) : Tl p (n + 1) N :=
  ⟨h.size, fun j a b => h.tail j (by omega) b, fun i hi => by
    rcases Nat.lt_or_ge i n with q | q
    · have := h.pre i q
      omega
    · have := h.tail i q (by omega)
      omega⟩
theorem Tl.mono {p : Array Nat} {n m : Nat} (h : Tl p n N) (hm : n ≤ m) (hN : m ≤ N) : Tl p m N :=
  ⟨h.size, fun j a b => h.tail j (by omega) b, fun i hi => by
    rcases Nat.lt_or_ge i n with q | q
    · have := h.pre i q
      omega
    · have := h.tail i q (by omega)
      omega⟩
theorem Tl.get {p : Array Nat} {n j : Nat} (h : Tl p n N) (h1 : n ≤ j) (h2 : j < N) : p.getD j 0 = j := by
  have := h.tail j h1 h2
  unfold K' idK at this
  omega
theorem Tl.lt {p : Array Nat} {n i : Nat} (h : Tl p n N) (h1 : i < n) : p.getD i 0 < n := by
  have := h.pre i h1
  unfold K' idK at this
  omega
structure Ds (key : Nat → Int) (N : Nat) (p : Array Nat) (m q : Nat) : Prop where
  le : q + 1 ≤ m
  hi : m ≤ N
  tl : Tl p m N
  a : ∀ i j, i < j → j < m - (q + 1) → K' (k2 key N) p j ≤ K' (k2 key N) p i
  b : ∀ i, i < m - (q + 1) → K' key p (m - 1) < K' key p i
  c : ∀ i, m - (q + 1) ≤ i → i < m → K' key p i = K' key p (m - 1)
  e : ∀ i j, m - (q + 1) ≤ i → i ≤ j → j < m → K' idK p i ≤ K' idK p j
theorem Ds.blk {p : Array Nat} {m q : Nat} (h : Ds key N p m q) : Blk key p m q := ⟨h.le, h.c⟩
theorem Ds.non {p : Array Nat} {m q : Nat} (h : Ds key N p m q) : NonT (k2 key N) (kas_rev p (m - (q + 1)) m) m := fun i j hij hj => by
  have hle := h.le
  have hs := h.tl.size
  have hhi := h.hi
  rw [K_rev (by omega), K_rev (by omega)]
  by_cases hi : m - (q + 1) ≤ i
  · rw [if_pos (by omega), if_pos (by omega), k2_is, k2_is, h.c _ (by omega) (by omega), h.c (m - (q + 1) + m - 1 - i) (by omega) (by omega)]
    have := h.e (m - (q + 1) + m - 1 - j) (m - (q + 1) + m - 1 - i) (by omega) (by omega) (by omega)
    omega
  · rw [if_neg (c := m - (q + 1) ≤ i ∧ i < m) (by omega)]
    by_cases hj2 : m - (q + 1) ≤ j
    · rw [if_pos (by omega), k2_is, k2_is, h.c _ (by omega) (by omega)]
      have c1 := h.b i (by omega)
      have c2 := mulN (N := N) c1
      have c3 := h.tl.pre (m - (q + 1) + m - 1 - j) (by omega)
      have c4 : 0 ≤ K' idK p i := by unfold K' idK; omega
      omega
    · rw [if_neg (by omega)]
      rcases Nat.lt_or_ge i j with z | z
      · exact h.a i j z (by omega)
      · rw [show i = j by omega]
        exact Int.le_refl _
structure Ct (key : Nat → Int) (N : Nat) (r : Nat × Array Nat) : Prop where
  lo : 1 ≤ r.1
  hi : r.1 ≤ N
  sort : SortT (k2 key N) r.2 r.1
  tl : Tl r.2 r.1 N
end
end L2
namespace L2
open PySem PySem.SeqAt
def LtAt (A : Around) (s : Shared) (x y : Value) (b : Bool) : Prop := ∀ (P : Program) (w : World) (E Q : Value → Shared → Prop), Q (.bool b) s → wpAny (model P w) A (richCompare .Lt x y) Q E s
abbrev holds (c : String) (vs : Array Value) (k : Nat) (d : Option Addr) (sl : Array (Option Value)) : Obj := { cls := .type c, dict := d, data := .seq vs k, slots := sl }
theorem pair_lt {u v : Addr} {p0 p1 q0 q1 : Value} {k m : Nat} {du dv : Option Addr} {su sv : Array (Option Value)} {e0 e1 l0 l1 : Bool} :
    Meets (Builtin.«tuple.__lt__» ⟨[.ref u, .ref v], []⟩) fun A R s => s.heap.get? u = some (holds "tuple" #[p0, p1] k du su) ∧ s.heap.get? v = some (holds "tuple" #[q0, q1] m dv sv) ∧
      EqAt A.in1 s p0 q0 e0 ∧ EqAt A.in1 s p1 q1 e1 ∧ (e0 = false → LtAt A.in1 s p0 q0 l0) ∧ (e1 = false → LtAt A.in1 s p1 q1 l1) ∧ R (.ok (.ret (.bool (if e0 = true then (if e1 = true then false else l1) else l0)))) s := by
  refine .of_wp fun prog w A R s ⟨gu, gv, a0, a1, b0, b1, out⟩ => ?_
  have st := AutoSeq1.sub_tuple_tuple
  obtain ⟨hh, gg, dd, kk, oo⟩ := s
  have r0 : ∀ {E : Value → Shared → Prop} {Q : Bool → Shared → Prop}, Q e0 ⟨hh, gg, dd, kk, oo⟩ → wpAny (model prog w) A.in1 (eqBool p0 q0) Q E ⟨hh, gg, dd, kk, oo⟩ := fun z => a0 prog w _ _ z
  have r1 : ∀ {E : Value → Shared → Prop} {Q : Bool → Shared → Prop}, Q e1 ⟨hh, gg, dd, kk, oo⟩ → wpAny (model prog w) A.in1 (eqBool p1 q1) Q E ⟨hh, gg, dd, kk, oo⟩ := fun z => a1 prog w _ _ z
  cases e0 with
  | false =>
    have t0 : ∀ {E Q : Value → Shared → Prop}, Q (.bool l0) ⟨hh, gg, dd, kk, oo⟩ → wpAny (model prog w) A.in1 (richCompare .Lt p0 q0) Q E ⟨hh, gg, dd, kk, oo⟩ := fun z => b0 rfl prog w _ _ z
    wp_walk using AutoSeq1.wpAny_loadPart' gu, AutoSeq1.wpAny_loadPart' gv, r0, t0
    exact ⟨_, rfl, out⟩
  | true =>
    cases e1 with
    | false =>
      have t1 : ∀ {E Q : Value → Shared → Prop}, Q (.bool l1) ⟨hh, gg, dd, kk, oo⟩ → wpAny (model prog w) A.in1 (richCompare .Lt p1 q1) Q E ⟨hh, gg, dd, kk, oo⟩ := fun z => b1 rfl prog w _ _ z
      wp_walk using AutoSeq1.wpAny_loadPart' gu, AutoSeq1.wpAny_loadPart' gv, r0, r1, t1
      exact ⟨_, rfl, out⟩
    | true =>
      wp_walk using AutoSeq1.wpAny_loadPart' gu, AutoSeq1.wpAny_loadPart' gv, r0, r1
      exact ⟨_, rfl, out⟩
theorem firsts_loop {u v : Addr} {x y : Value} {us ws : Array Value} (hx : us[0]? = some x) (hy : ws[0]? = some y) {k m : Nat} {du dv : Option Addr} {su sv : Array (Option Value)} {c : Bool} :
    Meets (Builtin.«list.__eq__.loop» ⟨[.ref u, .ref v, rawInt 0, rawInt 0], []⟩) fun A R s => s.heap.get? u = some (holds "list" us k du su) ∧ s.heap.get? v = some (holds "list" ws m dv sv) ∧
      EqAt A.in1 s x y false ∧ LtAt A.in1 s x y c ∧ R (.ok (.ret (.bool c))) s := by
  rintro prog w A R ⟨hh, gg, dd, kk, oo⟩ ⟨gu, gv, a0, b0, out⟩
  have z1 : us[(0 : Int).toNat]? = some x := hx
  have z2 : ws[(0 : Int).toNat]? = some y := hy
  wp_walk using AutoSeq1.wpAny_loadPart' gu, AutoSeq1.wpAny_loadPart' gv
  rw [z1, z2]
  refine wpAny_bind (a0 prog w _ _ ?_)
  wp_walk using AutoSeq1.wpAny_loadPart' gu, AutoSeq1.wpAny_loadPart' gv
  rw [z1, z2]
  refine wpAny_bind (b0 prog w _ _ ?_)
  wp_walk
  exact out
theorem firsts_lt {u v : Addr} {x y : Value} {us ws : Array Value} (hx : us[0]? = some x) (hy : ws[0]? = some y) {k m : Nat} {du dv : Option Addr} {su sv : Array (Option Value)} {c : Bool} :
    Meets (Builtin.«list.__lt__» ⟨[.ref u, .ref v], []⟩) fun A R s => s.heap.get? u = some (holds "list" us k du su) ∧ s.heap.get? v = some (holds "list" ws m dv sv) ∧
      EqAt A.in1 s x y false ∧ LtAt A.in1 s x y c ∧ R (.ok (.ret (.bool c))) s := by
  rintro prog w A R ⟨hh, gg, dd, kk, oo⟩ ⟨gu, gv, a0, b0, out⟩
  have st := AutoSeq1.sub_list_list
  wp_walk using AutoSeq1.wpAny_loadPart' gu, AutoSeq1.wpAny_loadPart' gv
  refine ⟨plainId_quiet MeetsSeq3.plain_eq_loop _, codeAny_builtin MeetsSeq3.entry_eq_loop ?_⟩
  rw [Around.under_plainId MeetsSeq3.plain_eq_loop]
  exact firsts_loop hx hy prog w A R _ ⟨gu, gv, a0, b0, out⟩
section
variable {A : Around} {s : Shared} {u v : Addr}
theorem holds_of {c : String} {vs : Array Value} (h : ∃ o, s.heap.get? u = some o ∧ o.cls = .type c ∧ ∃ n, o.data = .seq vs n) : ∃ k d sl, s.heap.get? u = some (holds c vs k d sl) := by
  obtain ⟨⟨oc, od, ox, os⟩, g, rfl, n, rfl⟩ := h
  exact ⟨n, od, os, g⟩
theorem LtAt.lists {x y : Value} {us ws : Array Value} {c : Bool} (hu : s.heap.IsList u us) (hv : s.heap.IsList v ws) (hx : us[0]? = some x) (hy : ws[0]? = some y) (room : A.units < cLine) (a : EqAt A.in1 s x y false) (b : LtAt A.in1 s x y c) : LtAt A s (.ref u) (.ref v) c := fun prog w E Q q => by
  obtain ⟨k, du, su, gu⟩ := holds_of hu
  obtain ⟨m, dv, sv, gv⟩ := holds_of hv
  exact richCompare_meets_room (op := .Lt) ⟨_, gu, rfl⟩ ⟨_, gv, rfl⟩ F.slot_list_lt F.entry_list_lt (F.args_list_lt_2 _ _) (firsts_lt hx hy) ⟨gu, gv, a, b, show Value.bool c ≠ .notImplemented ∧ Q (.bool c) s from ⟨(fun z => nomatch z), q⟩⟩ room
theorem LtAt.pairs {p0 p1 q0 q1 : Value} {e0 e1 l0 l1 : Bool} (hu : s.heap.IsTuple u #[p0, p1]) (hv : s.heap.IsTuple v #[q0, q1]) (room : A.units < cLine) (a0 : EqAt A.in1 s p0 q0 e0) (a1 : EqAt A.in1 s p1 q1 e1) (b0 : e0 = false → LtAt A.in1 s p0 q0 l0) (b1 : e1 = false → LtAt A.in1 s p1 q1 l1) :
    LtAt A s (.ref u) (.ref v) (if e0 = true then (if e1 = true then false else l1) else l0) := fun prog w E Q q => by
  obtain ⟨k, du, su, gu⟩ := holds_of hu
  obtain ⟨m, dv, sv, gv⟩ := holds_of hv
  exact richCompare_meets_room (op := .Lt) ⟨_, gu, rfl⟩ ⟨_, gv, rfl⟩ F.slot_tuple_lt F.entry_tuple_lt (F.args_tuple_lt_2 _ _) pair_lt ⟨gu, gv, a0, a1, b0, b1, show Value.bool _ ≠ .notImplemented ∧ Q (.bool _) s from ⟨(fun z => nomatch z), q⟩⟩ room
end
end L2
namespace L2
open PySem PySem.Spec PyProof.Rows PySem.W PySem.SeqAt
section
variable {A : Around} {s : Shared}
def ThAt (s : Shared) (v : Value) (q : Str × Int) : Prop := ∃ a t u, v = .ref a ∧ s.heap.IsTuple a #[.str q.1 t, .int q.2 u] ∧ IsTh q.1 q.2
structure ThsAt (s : Shared) (la : Addr) (items : List Value) (qs : List (Str × Int)) : Prop where
  lst : s.heap.IsList la items.toArray
  ths : Paired (ThAt s) items qs
end
section
variable {prog : Program} {w : World} {A : Around} {E : Value → Shared → Prop} {s : Shared}
end
section
variable {X : Cx}
end
end L2
namespace DL
open PySem PySem.Spec L2
section
variable {X : Cx} {K : PySem.W.Frag} {mg : Str → Option Value} {ww : World}
end
end DL
namespace L2
open PySem PySem.SetTable
def adv (mask : Nat) (p : Probe) : Probe :=
  if p.more > 0 then { p with j := p.j + 1, more := p.more - 1 } else
  { p with j := (leap mask p.i p.perturb).1, more := runEnd mask (leap mask p.i p.perturb).1 - (leap mask p.i p.perturb).1, i := (leap mask p.i p.perturb).1, perturb := (leap mask p.i p.perturb).2 }
def advN (mask : Nat) : Nat → Probe → Probe
  | 0, p => p
  | s + 1, p => advN mask s (adv mask p)
def Msk (mask : Nat) : Prop := mask = 7 ∨ mask = 31 ∨ mask = 127
structure Pr (mask : Nat) (p : Probe) : Prop where
  j : p.j ≤ mask
  room : p.more = 0 ∨ p.j + p.more ≤ mask
  more : p.more ≤ 9
  pert : p.perturb < 2 ^ 64
  dm : p.dummy = none
def lcg (mask i : Nat) : Nat := (i * 5 + 1) % (mask + 1)
def rnd (mask i perturb : Nat) : Probe := { j := i, more := runEnd mask i - i, i := i, perturb := perturb, dummy := none }
def lcgN (mask : Nat) : Nat → Nat → Nat
  | 0, i => i
  | k + 1, i => lcgN mask k (lcg mask i)
def orb (mask : Nat) : Nat → Nat → List Nat
  | 0, _ => []
  | k + 1, i => i :: orb mask k (lcg mask i)
theorem orb_mem {mask : Nat} : ∀ {k i e : Nat}, e ∈ orb mask k i → ∃ a, a < k ∧ lcgN mask a i = e
  | 0, i, e, h => nomatch h
  | k + 1, i, e, h => by
    rw [orb] at h
    rcases List.mem_cons.mp h with rfl | h
    · exact ⟨0, by omega, rfl⟩
    · obtain ⟨a, ha, q⟩ := orb_mem h
      exact ⟨a + 1, by omega, q⟩
theorem lcgN_add (mask : Nat) : ∀ (a b i : Nat), lcgN mask (a + b) i = lcgN mask b (lcgN mask a i)
  | 0, b, i => by rw [Nat.zero_add]; rfl
  | a + 1, b, i => by rw [show a + 1 + b = (a + b) + 1 by omega, lcgN, lcgN_add mask a b, lcgN]
def chkO (m : Nat) : Bool := (List.range (m + 1)).all (fun e => (orb m (m + 1) 0).contains e) && lcgN m (m + 1) 0 == 0
theorem chk7 : chkO 7 = true := by decide +kernel
theorem chk31 : chkO 31 = true := by decide +kernel
theorem chk127 : chkO 127 = true := by decide +kernel
theorem full_of {m : Nat} (h : chkO m = true) {i e : Nat} (hi : i ≤ m) (he : e ≤ m) : ∃ a, a < m + 1 ∧ lcgN m a i = e := by
  unfold chkO at h
  rw [Bool.and_eq_true] at h
  have all : ∀ e, e ≤ m → ∃ a, a < m + 1 ∧ lcgN m a 0 = e := fun e he => orb_mem (List.contains_iff_mem.mp (List.all_eq_true.mp h.1 e (List.mem_range.mpr (by omega))))
  have per : lcgN m (m + 1) 0 = 0 := eq_of_beq h.2
  obtain ⟨a, ha, ea⟩ := all i hi
  obtain ⟨b, hb, eb⟩ := all e he
  subst ea
  rcases Nat.lt_or_ge b a with q | q
  · refine ⟨m + 1 - a + b, by omega, ?_⟩
    rw [← lcgN_add, show a + (m + 1 - a + b) = (m + 1) + b by omega, lcgN_add, per]
    exact eb
  · refine ⟨b - a, by omega, ?_⟩
    rw [← lcgN_add, show a + (b - a) = b by omega]
    exact eb
theorem full {mask : Nat} (h : Msk mask) {i e : Nat} (hi : i ≤ mask) (he : e ≤ mask) : ∃ a, a < mask + 1 ∧ lcgN mask a i = e := by
  rcases h with rfl | rfl | rfl
  · exact full_of chk7 hi he
  · exact full_of chk31 hi he
  · exact full_of chk127 hi he
def Rising (xs : Array Nat) : Prop := ∀ a b x y : Nat, a < b → xs[a]? = some x → xs[b]? = some y → x < y
structure Tab (t : SetTable) : Prop where
  msk : Msk t.mask
  dm : t.dummies = #[]
  ris : Rising t.place
  le : ∀ i j : Nat, t.place[i]? = some j → j ≤ t.mask
section
variable {t : SetTable}
def Occ (t : SetTable) (j : Nat) : Prop := ∃ i : Nat, t.place[i]? = some j
inductive MetAt (t : SetTable) (hashAt : Nat → Int) (h : Int) (p : Probe) : Met → Prop
  | empty (s : Nat) : (∀ s', s' < s → ∃ i : Nat, t.place[i]? = some (advN t.mask s' p).j ∧ hashAt i ≠ h) → ¬ Occ t (advN t.mask s p).j → MetAt t hashAt h p (.empty (advN t.mask s p).j none)
  | cand (s i : Nat) : (∀ s', s' < s → ∃ i : Nat, t.place[i]? = some (advN t.mask s' p).j ∧ hashAt i ≠ h) → t.place[i]? = some (advN t.mask s p).j → hashAt i = h → MetAt t hashAt h p (.candidate (advN t.mask s p).j i (advN t.mask (s + 1) p))
end
def pth0 (mask : Nat) (h : Int) (s : Nat) : Nat := (advN mask s (rnd mask (bits h % (mask + 1)) (bits h))).j
structure TabH (t : SetTable) (hs : List Int) : Prop where
  tab : Tab t
  len : t.place.size = hs.length
  pth : ∀ (i j : Nat) (h : Int), hs[i]? = some h → t.place[i]? = some j → ∃ s, pth0 t.mask h s = j ∧ ∀ s', s' < s → Occ t (pth0 t.mask h s')
section
variable {t : SetTable} {hs : List Int}
end
def OccO (ow : Array (Option Nat)) (j : Nat) : Prop := ∃ a : Nat, ow[j]? = some (some a)
section
variable {mask : Nat} {ow : Array (Option Nat)}
structure Own (mask : Nat) (hs : List Int) (k : Nat) (ow : Array (Option Nat)) : Prop where
  size : ow.size = mask + 1
  inj : ∀ i j a : Nat, ow[i]? = some (some a) → ow[j]? = some (some a) → i = j
  lt : ∀ j a : Nat, ow[j]? = some (some a) → a < k
  onto : ∀ a : Nat, a < k → ∃ j : Nat, ow[j]? = some (some a)
  pth : ∀ (j a : Nat) (h : Int), ow[j]? = some (some a) → hs[a]? = some h → ∃ s, pth0 mask h s = j ∧ ∀ s', s' < s → OccO ow (pth0 mask h s')
end
section
variable {mask : Nat} {hs : List Int}
end
end L2
namespace L2
open PySem PySem.Spec PyProof.Rows PySem.SetTable
section
variable {prog : Program} {w : World} {A : Around} {E : Value → Shared → Prop}
end
structure SetT (w : World) (ys : List (PyData × Addr)) (es : Array (Int × Value)) (t : SetTable) : Prop where
  els : es.toList = ys.map fun y => (hashD w y.1, Value.ref y.2)
  tab : TabH t (ys.map fun y => hashD w y.1)
  few : ys.length * 5 < t.mask * 3
  led : t.led = !(w.params.followText "set-order")
theorem SetT.size {w : World} {ys : List (PyData × Addr)} {es : Array (Int × Value)} {t : SetTable} (T : SetT w ys es t) : es.size = ys.length := by rw [← Array.length_toList, T.els, List.length_map]
theorem SetT.at {w : World} {ys : List (PyData × Addr)} {es : Array (Int × Value)} {t : SetTable} (T : SetT w ys es t) (i : Nat) : es[i]? = (ys[i]?).map fun y => (hashD w y.1, Value.ref y.2) := by
  rw [← Array.getElem?_toList, T.els, List.getElem?_map]
theorem SetT.fits {w : World} {ys : List (PyData × Addr)} {es : Array (Int × Value)} {t : SetTable} (T : SetT w ys es t) : t.fits es.size = true := by
  have h1 := T.tab.len
  have h2 := T.tab.tab.dm
  have h3 := T.few
  have h4 := T.size
  rw [List.length_map] at h1
  unfold SetTable.fits SetTable.fill
  rw [h2, h1, h4]
  simp
  omega
section
variable {prog : Program} {w : World} {A : Around} {E : Value → Shared → Prop} {s : Shared}
def SetX (w : World) (a : Addr) (ys : List (PyData × Addr)) (h : Heap) : Prop := ∃ o es ep t, h.get? a = some o ∧ o.ExactSet ∧ o.data = .set es ep t ∧ SetT w ys es t
end
end L2
namespace L2
open PySem PySem.Spec PyProof.Rows PySem.SetTable
def Kept (h h' : Heap) : Prop := ∀ (b : Addr) (o : Obj), h.get? b = some o → h'.get? b = some o
mutual
theorem reads_kept {h h' : Heap} (q : Kept h h') : ∀ (d : PyData) (v : Value) (as : List Addr), keyD d = true → Reads h v d as → Reads h' v d as
  | .int _, _, _, _, r => by cases r; exact .int _ _
  | .str _, _, _, _, r => by cases r; exact .str _ _
  | .tuple xs, _, _, hk, r => by
    rw [keyD] at hk
    cases r with
    | tuple h1 h2 h3 h4 => exact .tuple (q _ _ h1) h2 h3 (readsAll_kept q xs _ _ hk h4)
  | .none, _, _, z, _ => by simp [keyD] at z
  | .bool _, _, _, z, _ => by simp [keyD] at z
  | .list _, _, _, z, _ => by simp [keyD] at z
  | .dict _, _, _, z, _ => by simp [keyD] at z
theorem readsAll_kept {h h' : Heap} (q : Kept h h') : ∀ (d : List PyData) (v : List Value) (as : List Addr), keyDs d = true → ReadsAll h v d as → ReadsAll h' v d as
  | [], _, _, _, r => by cases r; exact .nil
  | x :: xs, _, _, hk, r => by
    rw [keyDs, Bool.and_eq_true] at hk
    cases r with
    | cons r rs => exact .cons (reads_kept q x _ _ hk.1 r) (readsAll_kept q xs _ _ hk.2 rs)
end
section
variable {prog : Program} {w : World}
end
end L2
namespace L2
open PySem PySem.Spec PyProof.Rows
section
variable {X : Cx}
end
end L2
namespace DL
open PySem PySem.Spec L2
section
variable {X : Cx} {K : PySem.W.Frag} {mg : Str → Option Value} {ww : World} {E : XK} {ow : List Bool} {a : Expr} {ms : Ev → R (List D)} {p p2 pos pos2 : Pos}
end
end DL
namespace L2
open PySem PySem.Spec PyProof.Rows
section
variable {prog : Program} {w : World} {A : Around} {E : Value → Shared → Prop} {s : Shared} {it l : Addr} {items : Array Value}
end
end L2
namespace L2
open PySem PySem.Spec PyProof.Rows
section
variable {X : Cx} {e : Expr} {te : TE} {p p' pos pos' : Pos}
end
end L2
namespace DL
open PySem PySem.Spec L2
section
variable {X : Cx} {K : PySem.W.Frag} {mg : Str → Option Value} {ww : World} {E : XK} {ow : List Bool} {e : Expr} {m : Ev → R D} {p p' pos pos' : Pos}
end
end DL
namespace L2
open PySem PySem.Spec PyProof.Rows PySem.SetTable
section
variable {prog : Program} {w : World} {A : Around} {E : Value → Shared → Prop} {s : Shared}
end
end L2
namespace L2
open PySem PySem.Spec PyProof.Rows PySem.SetTable
inductive SiM (w : World) (S tp : Addr) (es : Array (Int × Value)) (ep : Nat) (t : SetTable) (ord : List Value) (i : Nat) (h : Heap) : Value → Prop
  | text (slot : Nat) (hb : w.params.followText "set-order" = true) (he : ord = (pickOrder (w.params.setOrder S ep) es).toList.map (·.2)) : SiM w S tp es ep t ord i h (rawInt slot)
  | led (slot : Nat) (hb : w.params.followText "set-order" = false) (hl : t.led = true) (hd : (!t.plain && decide (es.size > 1)) = false) (hs : below t.place slot = i) (he : ord = es.toList.map (·.2)) : SiM w S tp es ep t ord i h (rawInt slot)
  | drawn (o : Obj) (m : Nat) (places : List Nat) (hb : w.params.followText "set-order" = false) (ho : h.get? tp = some o) (hd : o.data = .seq (places.map fun (i : Nat) => rawInt i).toArray m) (hp : ∀ p ∈ places, p < es.size) (he : ord = places.map fun p => (es.getD p (0, .none)).2) : SiM w S tp es ep t ord i h (.ref tp)
structure SiS (w : World) (I S tp : Addr) (es : Array (Int × Value)) (ep : Nat) (t : SetTable) (ord : List Value) (i : Nat) (h : Heap) : Prop where
  it : ∃ o first, h.get? I = some o ∧ o.cls = .type "set_iterator" ∧ o.data = .fields #[first, rawInt i, .ref S, rawInt es.size, rawInt ep] ∧ SiM w S tp es ep t ord i h first
  set : ∃ o, h.get? S = some o ∧ o.data = .set es ep t
theorem SiM.at {w : World} {S tp : Addr} {es : Array (Int × Value)} {ep : Nat} {t : SetTable} {ord : List Value} {i : Nat} {h h' : Heap} {v : Value} (M : SiM w S tp es ep t ord i h v) (e : ∀ o, h.get? tp = some o → h'.get? tp = some o) : SiM w S tp es ep t ord i h' v := by
  cases M with
  | text slot a b => exact .text slot a b
  | led slot a b c d e => exact .led slot a b c d e
  | drawn o m ps a b c d f => exact .drawn o m ps a (e _ b) c d f
section
variable {prog : Program} {w : World} {A : Around} {E : Value → Shared → Prop} {s : Shared} {I S tp : Addr} {es : Array (Int × Value)} {ep : Nat} {t : SetTable} {ord : List Value}
theorem SiS.ty {i : Nat} (x : SiS w I S tp es ep t ord i s.heap) : s.TypeIs (.ref I) "set_iterator" := let ⟨o, _, ho, hc, _⟩ := x.it; ⟨o, ho, hc⟩
end
end L2
namespace L2
open PySem PySem.Spec PyProof.Rows PySem.SetTable
structure SetG (w : World) (ys : List (Int × Value)) (es : Array (Int × Value)) (t : SetTable) : Prop where
  els : es.toList = ys
  tab : TabH t (ys.map (·.1))
  few : ys.length * 5 < t.mask * 3
  led : t.led = !(w.params.followText "set-order")
def SetGX (w : World) (a : Addr) (ys : List (Int × Value)) (h : Heap) : Prop := ∃ o es ep t, h.get? a = some o ∧ o.ExactSet ∧ o.data = .set es ep t ∧ SetG w ys es t
theorem SetT.gen {w : World} {ys : List (PyData × Addr)} {es : Array (Int × Value)} {t : SetTable} (T : SetT w ys es t) : SetG w (ys.map fun y => (hashD w y.1, Value.ref y.2)) es t :=
  ⟨T.els, by rw [List.map_map]; exact T.tab, by rw [List.length_map]; exact T.few, T.led⟩
theorem SetX.gen {w : World} {a : Addr} {ys : List (PyData × Addr)} {h : Heap} (X : SetX w a ys h) : SetGX w a (ys.map fun y => (hashD w y.1, Value.ref y.2)) h := by
  obtain ⟨o, es, ep, t, h1, h2, h3, T⟩ := X
  exact ⟨o, es, ep, t, h1, h2, h3, T.gen⟩
section
variable {w : World} {ys : List (Int × Value)} {es : Array (Int × Value)} {t : SetTable}
theorem SetG.size (T : SetG w ys es t) : es.size = ys.length := by rw [← Array.length_toList, T.els]
theorem SetG.fits (T : SetG w ys es t) : t.fits es.size = true := by
  have h1 := T.tab.len
  have h2 := T.tab.tab.dm
  have h3 := T.few
  have h4 := T.size
  rw [List.length_map] at h1
  unfold SetTable.fits SetTable.fill
  rw [h2, h1, h4]
  simp
  omega
end
section
variable {prog : Program} {w : World} {A : Around} {E : Value → Shared → Prop} {s : Shared}
end
end L2
namespace L2
open PySem PySem.Spec PyProof.Rows PySem.SetTable
section
variable {prog : Program} {w : World}
end
end L2
namespace L2
open PySem PySem.Spec PyProof.Rows PySem.SetTable
section
variable {prog : Program} {w : World} {A : Around} {E : Value → Shared → Prop} {s : Shared}
theorem SetGX.ty {S : Addr} {ys : List (Int × Value)} (X : SetGX w S ys s.heap) : s.TypeIs (.ref S) "set" := by
  obtain ⟨o, _, _, _, ho, hex, _⟩ := X
  exact ⟨o, ho, hex.1⟩
structure SiN (w : World) (S : Addr) (ys : List (Int × Value)) (h h' : Heap) (I tp : Addr) (es : Array (Int × Value)) (ep : Nat) (t : SetTable) (ord : List Value) : Prop where
  kept : Kept h h'
  st : SiS w I S tp es ep t ord 0 h'
  perm : ord.Perm (ys.map fun y => y.2)
  len : ord.length = es.size
  T : SetG w ys es t
  newI : h.objs.size ≤ I
  newT : h.objs.size ≤ tp ∨ tp = S
  neS : S ≠ I
  neT : tp ≠ I
def nV : Value → Int
  | .int k _ => k
  | _ => 0
def nI (y : Int × Value) : Int := nV y.2
end
end L2
namespace L2
open PySem PySem.Spec PyProof.Rows PySem.W
section
variable {A : Type} {key : Nat → Int}
end
section
variable {X : Cx}
end
end L2
namespace DL
open PySem PySem.Spec L2
section
variable {X : Cx} {K : PySem.W.Frag} {mg : Str → Option Value} {ww : World} {E : XK} {ow : List Bool} {a : Expr} {ms : Ev → R (List D)} {p p2 pos pos2 : Pos}
end
end DL
namespace L2
open PySem PySem.Spec PyProof.Rows PySem.SetTable
section
variable {prog : Program} {w : World}
structure ItN (prog : Program) (w : World) (A : Around) (l : Addr) (n : Nat) (P : Nat → Value → Prop) (I : Addr) (h1 h2 : Heap) : Prop where
  new : I = h1.objs.size
  kept : Kept h1 h2
  wk : ∃ St : Nat → Heap → Prop, Walks prog w A I [I, l] [I] n P St ∧ St 0 h2
end
end L2
namespace L2
open PySem PySem.Spec PyProof.Rows PySem.SetTable
def dedI : List Int → List Int
  | [] => []
  | d :: l => if d ∈ dedI l then dedI l else d :: dedI l
def SetIB (w : World) (a : Addr) (ns : List Int) (h : Heap) : Prop := ∃ ys, SetGX w a ys h ∧ (∀ y ∈ ys, ∃ k tk, y = (hashInt k, Value.int k tk)) ∧ (ys.map nI).Perm (dedI ns)
theorem SetIB.len {w : World} {a : Addr} {ns : List Int} {h : Heap} {ys : List (Int × Value)} (h : (ys.map nI).Perm (dedI ns)) : ys.length = (dedI ns).length := by
  have := h.length_eq
  rw [List.length_map] at this
  exact this
section
variable {prog : Program} {w : World}
end
section
variable {X : Cx}
end
end L2
namespace DL
open PySem PySem.Spec L2
section
variable {X : Cx} {K : PySem.W.Frag} {mg : Str → Option Value} {ww : World} {E : XK} {ow : List Bool} {a : Expr} {ms : Ev → R (List D)} {p p2 pos pos2 : Pos}
end
end DL
namespace L2
open PySem PySem.Spec PyProof.Rows
section
variable {X : Cx} {e : Expr} {te : TE} {p p' pos pos' : Pos}
end
end L2
namespace DL
open PySem PySem.Spec L2
section
variable {X : Cx} {K : PySem.W.Frag} {mg : Str → Option Value} {ww : World} {E : XK} {ow : List Bool} {e : Expr} {m : Ev → R D} {p p' pos pos' : Pos}
end
end DL
namespace L2
open PySem PySem.Spec PyProof.Rows
section
variable {prog : Program} {w : World} {A : Around} {R : Result → Shared → Prop} {I : Addr} {fp wr : List Addr} {n : Nat} {P : Nat → Value → Prop} {St : Nat → Heap → Prop}
end
section
variable {prog : Program} {w : World} {A : Around} {E : Value → Shared → Prop} {s : Shared}
end
section
variable {X : Cx}
end
end L2
namespace DL
open PySem PySem.Spec L2
section
variable {X : Cx} {K : PySem.W.Frag} {mg : Str → Option Value} {ww : World} {E : XK} {ow : List Bool}
end
end DL
namespace DL
open PySem PySem.Spec L2
section
variable {K : PySem.W.Frag} {mg : Str → Option Value} {ww : World}
def noL : D → Bool
  | .non | .bl _ | .int _ | .str _ => true
  | .tup ds => noLs ds
  | _ => false
where
  noLs : List D → Bool
  | [] => true
  | d :: ds => noL d && noLs ds
structure AllL (H : Hp) (L : List Addr) : Prop where
  all : ∀ a xs, H a = some (.lst xs) → a ∈ L
  only : ∀ a ∈ L, ∃ xs, H a = some (.lst xs)
theorem rd_hide {H : Hp} {os L : List Addr} (hL : ∀ a ∈ L, ∀ o, H a = some o → ∃ xs, o = .lst xs) {b : Addr} {o : HO} (ho : ∀ xs, o ≠ .lst xs) (h : hide os H b = some o) : hide (L ++ os) H b = some o := by
  obtain ⟨n, h⟩ := hide_some.mp h
  refine hide_some.mpr ⟨fun z => ?_, h⟩
  rcases List.mem_append.mp z with z | z
  · obtain ⟨xs, e⟩ := hL b z o h
    exact ho xs e
  · exact n z
theorem lists_new {H H' : Hp} {os L : List Addr} (hL : AllL H L) (s : Same H H') {l : List D} {v : V} (h : IsD K mg ww (hide (L ++ os) H') (.lst l) v) : ∃ a xs, v = .ref a ∧ H a = none ∧ H' a = some (.lst xs) ∧ a ∉ os ∧ IsDs K mg ww (hide (L ++ os) H') l xs := by
  rw [IsD] at h
  obtain ⟨a, xs, rfl, h1, h2⟩ := h
  obtain ⟨n, h1⟩ := hide_some.mp h1
  refine ⟨a, xs, rfl, ?_, h1, fun z => n (List.mem_append_right _ z), h2⟩
  cases q : H a with
  | none => rfl
  | some o =>
    have := s a o q
    rw [h1] at this
    cases this
    exact absurd (List.mem_append_left _ (hL.all a xs q)) n
theorem sqT_hide {H : Hp} {os L : List Addr} (hL : ∀ a ∈ L, ∀ o, H a = some o → ∃ xs, o = .lst xs) {a : Addr} {xs : List V} (h : SqT K (hide os H) a xs) : SqT K (hide (L ++ os) H) a xs := by
  rcases h with (h | ⟨o, h⟩) | h
  · exact .inl (.inl (rd_hide hL (fun xs z => by cases z) h))
  · exact .inl (.inr ⟨o, rd_hide hL (fun xs z => by cases z) h⟩)
  · exact .inr h
mutual
theorem noL_hide {H : Hp} {os L : List Addr} (hL : ∀ a ∈ L, ∀ o, H a = some o → ∃ xs, o = .lst xs) : ∀ (d : D) (v : V), noL d = true → IsD K mg ww (hide os H) d v → IsD K mg ww (hide (L ++ os) H) d v
  | .non, v, _, h => by rw [IsD] at h ⊢; exact h
  | .bl b, v, _, h => by rw [IsD] at h ⊢; exact h
  | .int i, v, _, h => by rw [IsD] at h ⊢; exact h
  | .str x, v, _, h => by rw [IsD] at h ⊢; exact h
  | .tup ds, v, n, h => by
    rw [IsD] at h ⊢
    obtain ⟨a, xs, e, h1, h2⟩ := h
    rw [noL] at n
    exact ⟨a, xs, e, sqT_hide hL h1, noLs_hide hL ds xs n h2⟩
  | .lst _, _, n, _ => by simp [noL] at n
  | .dct _ _, _, n, _ => by simp [noL] at n
  | .exc _, _, n, _ => by simp [noL] at n
  | .scr _, _, n, _ => by simp [noL] at n
theorem noLs_hide {H : Hp} {os L : List Addr} (hL : ∀ a ∈ L, ∀ o, H a = some o → ∃ xs, o = .lst xs) : ∀ (ds : List D) (vs : List V), noL.noLs ds = true → IsDs K mg ww (hide os H) ds vs → IsDs K mg ww (hide (L ++ os) H) ds vs
  | [], vs, _, h => by rw [IsDs] at h ⊢; exact h
  | d :: ds, vs, n, h => by
    rw [IsDs] at h ⊢
    rw [noL.noLs, Bool.and_eq_true] at n
    obtain ⟨x, r, e, h1, h2⟩ := h
    exact ⟨x, r, e, noL_hide hL d x n.1 h1, noLs_hide hL ds r n.2 h2⟩
end
def OutN (K : PySem.W.Frag) (mg : Str → Option Value) (ww : World) (E : XK) (os : List Addr) (H : Hp) (r : R D) (Q : VK) : Prop := match r with
  | .ok d => ∀ v H' L, AllL H L → Same H H' → IsD K mg ww (hide (L ++ os) H') d v → Q v H'
  | .rse c => ∃ C, mg c = some (.ref C) ∧ ∀ H', Same H H' → E (.ref C) none H'
  | .bad => False
def tN (K : PySem.W.Frag) (mg : Str → Option Value) (ww : World) (E : XK) (ow : List Bool) (ms : Ev → R (List D)) (g : List D → R D) : TE := fun σ H Q => ∃ os ρ ds, Hd K mg ww ow os H σ ρ ∧ ms ρ = .ok ds ∧ noL.noLs ds = true ∧ OutN K mg ww E os H (g ds) Q
theorem all_lists {X : Cx} {pins : List (Addr × Obj)} {σ : St} {H : Hp} {s : Shared} (I : Inv X pins σ H s) : ∃ L, AllL H L := by
  refine ⟨(List.range s.heap.objs.size).filter fun a => match H a with | some (.lst _) => true | _ => false, fun a xs h => ?_, fun a h => ?_⟩
  · obtain ⟨z, its, n, r, hl, e⟩ := I.lstM h
    refine List.mem_filter.mpr ⟨List.mem_range.mpr (Heap.lt_size e), ?_⟩
    rw [h]
  · have := (List.mem_filter.mp h).2
    split at this
    · rename_i xs e
      exact ⟨xs, e⟩
    · cases this
theorem e_callN {X : Cx} {E : XK} {ow : List Bool} {e : Expr} {es : List Expr} {ms : Ev → R (List D)} {pos : Pos} {x : Str} {p : Pos} {k n : Nat} {CX : CXT} {f : Addr} {fd : FuncData} {ps : List Str} {g : List D → R D} (F : FnOk X.prog X.w X.K X.mg X.base CX k f fd ps (spD K mg ww n g)) (hr : Room k X.A) (hm : X.mg x = some (.ref f)) (hk : PySem.W.keepIn X.K (.ref f) = true) (hb : Binds X.K fd ps []) (hx : Passes CX X E)
    (ha : PA X (e :: es) (tA K mg ww .d E ow ms)) (hn : ∀ ρ ds, ms ρ = .ok ds → ds.length = n) (hg : Gl X x := by rfl) (hdb : (x == ("__debug__" : Str)) = false := by decide) (he : starEach (e :: es) X.env = (false, eval e X.env) :: starEach es X.env := by rfl) (hpl : (backTo pos (starEach es X.env)).any (·.1) = false := by rfl) :
    PE X (.Call (.Name x p) (e :: es) [] pos) (tN K mg ww E ow ms g) := by
  intro pins s σ H Q I h
  obtain ⟨os, ρ, ds, hd, hms, hno, o⟩ := h
  obtain ⟨L, hL⟩ := all_lists I
  refine pe_call (E := E) F hr hg hm hk hb .nil hx ha hdb he hpl pins s σ H Q I ⟨os, ρ, hd, ?_⟩
  rw [hms]
  intro vs H1 s1 q1
  have hd1 := isDs_of q1
  have only1 : ∀ a ∈ L, ∃ xs, H1 a = some (.lst xs) := fun a ha => (hL.only a ha).imp fun xs e => s1 a _ e
  rw [List.append_nil]
  refine ⟨by rw [hd1.len]; exact hn ρ ds hms, L ++ os, ds, fun a ha => ?_, noLs_hide (fun a ha o e => (only1 a ha).imp fun xs e' => Option.some.inj (e.symm.trans e')) ds vs hno hd1, ?_⟩
  · rcases List.mem_append.mp ha with z | z
    · obtain ⟨xs, e⟩ := only1 a z
      rw [e]
      exact fun z => nomatch z
    · exact (hd.same s1).dom a z
  · revert o
    cases g ds with
    | ok d => exact fun o v H' s2 q => o v H' L hL (Same.trans s1 s2) q
    | rse c => exact fun ⟨C, h1, h2⟩ => ⟨C, h1, fun H' s2 => h2 H' (Same.trans s1 s2)⟩
    | bad => exact fun o => o
def Kd (K : PySem.W.Frag) (H : Hp) : Prop := (∀ a xs ys, H a = some (.lst xs) → SqT K H a ys → False) ∧ ∀ a xs ys, SqT K H a xs → SqT K H a ys → xs = ys
def tKd (K : PySem.W.Frag) (t : TE) : TE := fun σ H Q => t σ H fun v H' => Kd K H' → Q v H'
theorem pe_kd {X : Cx} {e : Expr} {t : TE} (h : PE X e t) : PE X e (tKd X.K t) := fun pins s σ H Q I q => thn (h pins s σ H _ I q) fun u s1 ⟨v, H', I', r, k⟩ => ⟨v, H', I', r, k ⟨fun a xs ys h1 h2 => (by
  obtain ⟨z, its, n, r', hl, e1⟩ := I'.lstM h1
  obtain ⟨ti, tr, ⟨o, ho, hc, _⟩, _⟩ := I'.tuple h2
  rw [e1] at ho
  have ho := Option.some.inj ho
  rw [← ho] at hc
  exact absurd (show Value.type "list" = Value.type "tuple" from hc) (by decide)), fun a xs ys h1 h2 => I'.tuple_inj h1 h2⟩⟩
theorem inner_ne {H : Hp} {os : List Addr} (hK : Kd K H) {a b : Addr} {xs : List V} {l : List D} (ha : H a = some (.lst xs)) (hb : V.ref b ∈ xs) (hl : noL.noLs l = true) (h : IsD K mg ww (hide os H) (.lst l) (.ref b)) : b ≠ a := fun e => by
  subst e
  rw [IsD] at h
  obtain ⟨a', xs', e', h1, h2⟩ := h
  cases e'
  obtain ⟨_, h1⟩ := hide_some.mp h1
  rw [ha] at h1
  cases h1
  have go : ∀ (l : List D) (xs : List V), noL.noLs l = true → IsDs K mg ww (hide os H) l xs → V.ref b ∈ xs → False := fun l => by
    induction l with
    | nil =>
      intro xs _ h hb
      rw [IsDs] at h
      rw [h] at hb
      cases hb
    | cons d l ih =>
      intro xs n h hb
      rw [noL.noLs, Bool.and_eq_true] at n
      rw [IsDs] at h
      obtain ⟨x, r, rfl, h1, h2⟩ := h
      rcases List.mem_cons.mp hb with e | hb
      · subst e
        cases d with
        | tup ds =>
          rw [IsD] at h1
          obtain ⟨a', ys, e', h3, _⟩ := h1
          cases e'
          exact hK.1 b _ ys ha (Same.seqT hide_le h3)
        | non => rw [IsD] at h1; cases h1
        | bl _ => rw [IsD] at h1; cases h1
        | int _ => rw [IsD] at h1; cases h1
        | str _ => rw [IsD] at h1; cases h1
        | lst _ => simp [noL] at n
        | dct _ _ => simp [noL] at n
        | exc _ => simp [noL] at n
        | scr _ => simp [noL] at n
      · exact ih r n.2 h2 hb
  exact go l _ hl h2 hb
def twoL (p : List D × List D) : D := .tup [.lst p.1, .lst p.2]
theorem two_ne {H : Hp} {os : List Addr} (hK : Kd K H) {a b : Addr} {xs : List V} {ps : List (List D × List D)} {l : List D} (ha : H a = some (.lst xs)) (hxs : IsDs K mg ww (hide os H) (ps.map twoL) xs) (hne : ps ≠ []) (hl : noL.noLs l = true) (h : IsD K mg ww (hide os H) (.lst l) (.ref b)) : b ≠ a := fun e => by
  subst e
  rw [IsD] at h
  obtain ⟨a', xs', e', h1, h2⟩ := h
  cases e'
  obtain ⟨_, h1⟩ := hide_some.mp h1
  rw [ha] at h1
  cases h1
  cases ps with
  | nil => exact hne rfl
  | cons p ps =>
    rw [List.map_cons, IsDs] at hxs
    obtain ⟨x, r, rfl, q1, q2⟩ := hxs
    unfold twoL at q1
    rw [IsD] at q1
    obtain ⟨c, ys, rfl, q3, q4⟩ := q1
    rw [IsDs] at q4
    obtain ⟨y, r', rfl, q5, _⟩ := q4
    rw [IsD] at q5
    obtain ⟨e, zs, rfl, q6, _⟩ := q5
    obtain ⟨_, q6⟩ := hide_some.mp q6
    cases l with
    | nil =>
      rw [IsDs] at h2
      cases h2
    | cons d l =>
      rw [noL.noLs, Bool.and_eq_true] at hl
      rw [IsDs] at h2
      obtain ⟨x, r2, e2, h3, _⟩ := h2
      obtain ⟨rfl, rfl⟩ := List.cons.inj e2
      cases d with
      | tup ds =>
        rw [IsD] at h3
        obtain ⟨c', ys', e3, h4, h5⟩ := h3
        cases e3
        have := hK.2 _ _ _ (Same.seqT hide_le q3) (Same.seqT hide_le h4)
        subst this
        cases ds with
        | nil =>
          rw [IsDs] at h5
          cases h5
        | cons d1 ds =>
          have n1 := hl.1
          rw [noL, noL.noLs, Bool.and_eq_true] at n1
          rw [IsDs] at h5
          obtain ⟨y, r3, e4, h6, _⟩ := h5
          obtain ⟨rfl, rfl⟩ := List.cons.inj e4
          cases d1 with
          | tup ds =>
            rw [IsD] at h6
            obtain ⟨e', us, e5, h7, _⟩ := h6
            cases e5
            exact hK.1 _ _ _ q6 (Same.seqT hide_le h7)
          | non => rw [IsD] at h6; cases h6
          | bl _ => rw [IsD] at h6; cases h6
          | int _ => rw [IsD] at h6; cases h6
          | str _ => rw [IsD] at h6; cases h6
          | lst _ => simp [noL] at n1
          | dct _ _ => simp [noL] at n1
          | exc _ => simp [noL] at n1
          | scr _ => simp [noL] at n1
      | non => rw [IsD] at h3; cases h3
      | bl _ => rw [IsD] at h3; cases h3
      | int _ => rw [IsD] at h3; cases h3
      | str _ => rw [IsD] at h3; cases h3
      | lst _ => simp [noL] at hl
      | dct _ _ => simp [noL] at hl
      | exc _ => simp [noL] at hl
      | scr _ => simp [noL] at hl
end
end DL
namespace DL
open PySem PySem.Spec L2
section
variable {K : PySem.W.Frag} {p : Addr} {bs : List Addr} {i : Nat} {D : Ends} {σ : St} {H1 : Hp}
theorem clear_loop (hp : H1 p = some (.lst (bs.map V.ref))) (hb : ∀ b ∈ bs, ∃ xs, H1 b = some (.lst xs)) (hne : p ∉ bs) (hi : i < σ.length)
    (fin : ∀ σ' H', (σ' = σ ∨ ∃ x, σ' = σ.set i (some x)) → (∀ c o, c ∉ bs → H1 c = some o → H' c = some o) → (∀ c ∈ bs, ∃ xs, H' c = some (.lst xs)) → D.nx σ' H') :
    ∃ W : Nat → Nat → St → Hp → Prop, (∃ m, W 0 m σ H1) ∧ ∀ j m σ' H', W j m σ' H' →
      ((Itl K p).stop j H' ∧ D.nx σ' H') ∨ ((Itl K p).go j H' ∧ ∃ N : St → Hp → Prop, (∀ σ2 H2, N σ2 H2 → ∃ m', m' < m ∧ W (j + 1) m' σ2 H2) ∧
        ∀ x H2, (Itl K p).yld j H' x H2 → gName i x σ' H2 fun σ3 H3 => tDrop (tBM0 K "list" rClear (tVar i)) { D with nx := N, ct := N, bk := D.nx } σ3 H3) := by
  refine ⟨fun j m σ' H' => m = bs.length - j ∧ j ≤ bs.length ∧ (σ' = σ ∨ ∃ x, σ' = σ.set i (some x)) ∧ H' p = some (.lst (bs.map V.ref)) ∧ (∀ b ∈ bs, ∃ xs, H' b = some (.lst xs)) ∧ ∀ c o, c ∉ bs → H1 c = some o → H' c = some o, ⟨bs.length, by simp, Nat.zero_le _, .inl rfl, hp, hb, fun c o _ e => e⟩, ?_⟩
  rintro j m σ' H' ⟨rfl, hj, hs, hp', hb', hk⟩
  have sq : SqL K H' p (bs.map V.ref) := SqL.of hp'
  rcases Nat.lt_or_ge j bs.length with lt | ge
  · have hx : (bs.map V.ref)[j]? = some (V.ref bs[j]) := by rw [List.getElem?_map, List.getElem?_eq_getElem lt]; rfl
    refine .inr ⟨⟨_, _, sq, hx⟩, fun σ2 H2 => j + 1 ≤ bs.length ∧ (σ2 = σ ∨ ∃ x, σ2 = σ.set i (some x)) ∧ H2 p = some (.lst (bs.map V.ref)) ∧ (∀ b ∈ bs, ∃ xs, H2 b = some (.lst xs)) ∧ ∀ c o, c ∉ bs → H1 c = some o → H2 c = some o, fun σ2 H2 n => ⟨bs.length - (j + 1), by omega, rfl, n⟩, ?_⟩
    rintro x H2 ⟨rfl, hy⟩
    have e := hy _ sq
    rw [hx] at e
    cases e
    have hm : bs[j] ∈ bs := List.getElem_mem lt
    obtain ⟨xs, hxs⟩ := hb' _ hm
    have hl : σ'.length = σ.length := by
      rcases hs with rfl | ⟨x, rfl⟩
      · rfl
      · rw [List.length_set]
    have hset : ∃ x, σ'.set i (some (V.ref bs[j])) = σ.set i (some x) := ⟨V.ref bs[j], by
      rcases hs with rfl | ⟨x, rfl⟩
      · rfl
      · rw [List.set_set]⟩
    refine ⟨V.ref bs[j], by rw [List.getElem?_set_self (by omega)], .inl ⟨rfl, xs, SqL.of hxs⟩, bs[j], xs, rfl, rfl, hxs, lt, .inr hset, ?_, fun b hbm => ?_, fun c o hc ec => ?_⟩
    · rw [upd_ne fun e => hne (by rw [e]; exact hm)]
      exact hp'
    · by_cases e : b = bs[j]
      · rw [e]
        exact ⟨[], upd_same⟩
      · rw [upd_ne e]
        exact hb' b hbm
    · rw [upd_ne fun e => hc (by rw [e]; exact hm)]
      exact hk c o hc ec
  · exact .inl ⟨⟨_, sq, by rw [List.length_map]; exact ge⟩, fin σ' H' hs hk hb'⟩
end
end DL
namespace DL
open PySem PySem.Spec L2
section
variable {K : PySem.W.Frag} {p Da : Addr} {bs : List Addr} {σ : St} {H1 : Hp} {R : Hp → Prop}
theorem paired_snoc {α β : Type} {F : α → β → Prop} {l : List α} {l' : List β} {a : α} {b : β} (h : Paired F l l') (hab : F a b) : Paired F (l ++ [a]) (l' ++ [b]) := by
  induction h with
  | nil => exact .cons hab .nil
  | cons h1 _ ih => exact .cons h1 ih
theorem copy_loop {tt : TT} (htt : ∀ σ H (Q : Bool → Hp → Prop), Q true H → tt σ H Q) (hp : H1 p = some (.lst (bs.map V.ref))) (hb : ∀ b ∈ bs, ∃ xs, H1 b = some (.lst xs)) (hD : H1 Da = none) (few : bs.length ≤ 1000)
    (fin : ∀ H' cs, Same H1 H' → H' Da = some (.lst (cs.map V.ref)) → Paired (fun c b => ∃ xs, H1 b = some (.lst xs) ∧ H' c = some (.lst xs) ∧ H1 c = none ∧ c ≠ Da) cs bs → R H') :
    LcW [none] (gName 0) tt (tCB (rListAll K) (tCons (tVar 0) tNil)) σ (Itl K p) H1 Da R := by
  refine ⟨fun j m σ' H' => m = bs.length - j ∧ j ≤ bs.length ∧ σ'.length = 1 ∧ Same H1 H' ∧ ∃ cs, H' Da = some (.lst (cs.map V.ref)) ∧ Paired (fun c b => ∃ xs, H1 b = some (.lst xs) ∧ H' c = some (.lst xs) ∧ H1 c = none ∧ c ≠ Da) cs (bs.take j), ⟨bs.length, by simp, Nat.zero_le _, rfl, Wv.same_new hD, [], upd_same, by rw [List.take_zero]; exact .nil⟩, ?_⟩
  rintro j m σ' H' ⟨rfl, hj, hs, sm, cs, hc, hpr⟩
  have sq : SqL K H' p (bs.map V.ref) := SqL.of (sm _ _ hp)
  rcases Nat.lt_or_ge j bs.length with lt | ge
  · have hx : (bs.map V.ref)[j]? = some (V.ref bs[j]) := by rw [List.getElem?_map, List.getElem?_eq_getElem lt]; rfl
    refine .inr ⟨⟨_, _, sq, hx⟩, fun σ2 H2 => j + 1 ≤ bs.length ∧ σ2.length = 1 ∧ Same H1 H2 ∧ ∃ cs, H2 Da = some (.lst (cs.map V.ref)) ∧ Paired (fun c b => ∃ xs, H1 b = some (.lst xs) ∧ H2 c = some (.lst xs) ∧ H1 c = none ∧ c ≠ Da) cs (bs.take (j + 1)), fun σ2 H2 n => ⟨bs.length - (j + 1), by omega, rfl, n⟩, ?_⟩
    rintro x H2 ⟨rfl, hy⟩
    have e := hy _ sq
    rw [hx] at e
    cases e
    have hm : bs[j] ∈ bs := List.getElem_mem lt
    obtain ⟨xs, hxs⟩ := hb _ hm
    have cl := Paired.length hpr
    rw [List.length_take] at cl
    refine htt _ _ _ ?_
    rw [if_pos rfl]
    refine ⟨V.ref bs[j], by rw [List.getElem?_set_self (by omega)], bs[j], xs, rfl, .inl (SqL.of (sm _ _ hxs)), fun l hl => ?_⟩
    have hlD : Da ≠ l := fun e => by rw [← e, hc] at hl; cases hl
    have h1l : H1 l = none := by
      cases q : H1 l with
      | none => rfl
      | some o =>
        rw [sm l o q] at hl
        cases hl
    have hDl : upd H2 l (.lst xs) Da = some (.lst (cs.map V.ref)) := by rw [upd_ne hlD]; exact hc
    refine ⟨cs.map V.ref, hDl, by rw [List.length_map]; exact Nat.lt_of_le_of_lt (show cs.length ≤ 1000 by omega) (by decide), lt, by rw [List.length_set]; exact hs, fun b o e => ?_, cs ++ [l], ?_, ?_⟩
    · have n1 : b ≠ Da := fun z => by rw [z, hD] at e; cases e
      have n2 : b ≠ l := fun z => by rw [z, h1l] at e; cases e
      rw [upd_ne n1, upd_ne n2]
      exact sm b o e
    · rw [upd_same, List.map_append]
      rfl
    · rw [List.take_succ, List.getElem?_eq_getElem lt]
      refine paired_snoc (Paired.imp (fun c b z => ?_) hpr) ⟨xs, hxs, ?_, h1l, Ne.symm hlD⟩
      · obtain ⟨ys, a1, a2, a3, a4⟩ := z
        have n2 : c ≠ l := fun z => by rw [z, hl] at a2; cases a2
        exact ⟨ys, a1, by rw [upd_ne a4, upd_ne n2]; exact a2, a3, a4⟩
      · rw [upd_ne (Ne.symm hlD), upd_same]
  · refine .inl ⟨⟨_, sq, by rw [List.length_map]; exact ge⟩, fin H' cs sm hc ?_⟩
    rw [List.take_of_length_le ge] at hpr
    exact hpr
end
end DL
namespace DL
open PySem PySem.Spec L2
section
variable {K : PySem.W.Frag} {mg : Str → Option Value} {ww : World} {os as : List Addr} {H H2 : Hp}
theorem hide_same {T : List Addr} (s : Same H H2) : Same (hide T H) (hide T H2) := fun b o z => by
  obtain ⟨z1, z2⟩ := hide_some.mp z
  exact hide_some.mpr ⟨z1, s b o z2⟩
theorem hide_less {T T' : List Addr} (h : ∀ t ∈ T', t ∈ T) : Same (hide T H) (hide T' H) := fun b o z => by
  obtain ⟨z1, z2⟩ := hide_some.mp z
  exact hide_some.mpr ⟨fun q => z1 (h b q), z2⟩
def GoodL (K : PySem.W.Frag) (mg : Str → Option Value) (ww : World) (os : List Addr) (H : Hp) (as : List Addr) (a : Addr) (l : List D) : Prop :=
  ∃ xs, H a = some (.lst xs) ∧ ∀ T : List Addr, (∀ t ∈ T, t ∈ as ∨ H t = none) → IsDs K mg ww (hide (T ++ os) H) l xs
theorem GoodL.later {a a2 : Addr} {l : List D} (g : GoodL K mg ww os H as a l) (s : Same H H2) (n : H a2 = none) : GoodL K mg ww os H2 (as ++ [a2]) a l := by
  obtain ⟨xs, h1, h2⟩ := g
  refine ⟨xs, s _ _ h1, fun T hT => IsDs.same (hide_same s) _ _ (h2 T fun t ht => ?_)⟩
  rcases hT t ht with z | z
  · rcases List.mem_append.mp z with z | z
    · exact .inl z
    · exact .inr (by rw [List.mem_singleton.mp z]; exact n)
  · refine .inr ?_
    cases q : H t with
    | none => rfl
    | some o =>
      rw [s t o q] at z
      cases z
theorem GoodL.plain {a : Addr} {xs : List V} {l : List D} (hno : noL.noLs l = true) (has : ∀ t ∈ as, ∃ ys, H t = some (.lst ys)) (h1 : H a = some (.lst xs)) (h2 : IsDs K mg ww (hide os H) l xs) : GoodL K mg ww os H as a l :=
  ⟨xs, h1, fun T hT => noLs_hide (fun t ht o e => by
    rcases hT t ht with z | z
    · obtain ⟨ys, q⟩ := has t z
      exact ⟨ys, Option.some.inj (e.symm.trans q)⟩
    · rw [z] at e
      cases e) l xs hno h2⟩
theorem GoodL.deep {a : Addr} {xs : List V} {ls : List (List D)} (hK : Kd K H2) (hno : ∀ l ∈ ls, noL.noLs l = true) (has : ∀ t ∈ as, ∃ ys, H t = some (.lst ys)) {L : List Addr} (hL : AllL H L) (s : Same H H2) (h1 : H2 a = some (.lst xs)) (h2 : IsDs K mg ww (hide (L ++ os) H2) (ls.map D.lst) xs) : GoodL K mg ww os H2 (as ++ [a]) a (ls.map D.lst) := by
  refine ⟨xs, h1, fun T hT => ?_⟩
  have go : ∀ (ls : List (List D)) (ys : List V), (∀ l ∈ ls, noL.noLs l = true) → (∀ y ∈ ys, y ∈ xs) → IsDs K mg ww (hide (L ++ os) H2) (ls.map D.lst) ys → IsDs K mg ww (hide (T ++ os) H2) (ls.map D.lst) ys := fun ls => by
    induction ls with
    | nil =>
      intro ys _ _ h
      rw [List.map_nil, IsDs] at h ⊢
      exact h
    | cons l ls ih =>
      intro ys hn hy h
      rw [List.map_cons, IsDs] at h ⊢
      obtain ⟨x, r, rfl, q1, q2⟩ := h
      refine ⟨x, r, rfl, ?_, ih r (fun l hl => hn l (List.mem_cons_of_mem _ hl)) (fun y hyr => hy y (List.mem_cons_of_mem _ hyr)) q2⟩
      obtain ⟨b, zs, rfl, b1, b2, b3, b4⟩ := lists_new hL s q1
      have nb : b ≠ a := inner_ne hK h1 (hy _ List.mem_cons_self) (hn l List.mem_cons_self) q1
      rw [IsD]
      refine ⟨b, zs, rfl, hide_some.mpr ⟨fun z => ?_, b2⟩, ?_⟩
      · rcases List.mem_append.mp z with z | z
        · rcases hT b z with z | z
          · rcases List.mem_append.mp z with z | z
            · obtain ⟨ys, e⟩ := has b z
              rw [b1] at e
              cases e
            · exact nb (List.mem_singleton.mp z)
          · rw [b2] at z
            cases z
        · exact b3 z
      · refine noLs_hide (fun t ht o e => ?_) l zs (hn l List.mem_cons_self) (IsDs.same (hide_less fun t ht => List.mem_append_right _ ht) _ _ b4)
        rcases hT t ht with z | z
        · rcases List.mem_append.mp z with z | z
          · obtain ⟨ys, q⟩ := has t z
            exact ⟨ys, Option.some.inj (e.symm.trans (s _ _ q))⟩
          · rw [List.mem_singleton.mp z, h1] at e
            exact ⟨xs, (Option.some.inj e).symm⟩
        · rw [z] at e
          cases e
  exact go ls xs hno (fun y hy => hy) h2
theorem GoodL.pairs {a : Addr} {xs : List V} {ps : List (List D × List D)} (hK : Kd K H2) (hno : ∀ p ∈ ps, noL.noLs p.1 = true ∧ noL.noLs p.2 = true) (has : ∀ t ∈ as, ∃ ys, H t = some (.lst ys)) {L : List Addr} (hL : AllL H L) (s : Same H H2) (h1 : H2 a = some (.lst xs)) (h2 : IsDs K mg ww (hide (L ++ os) H2) (ps.map twoL) xs) : GoodL K mg ww os H2 (as ++ [a]) a (ps.map twoL) := by
  refine ⟨xs, h1, fun T hT => ?_⟩
  have ls : ∀ t ∈ T, ∀ o, H2 t = some o → ∃ ys, o = .lst ys := fun t ht o e => by
    rcases hT t ht with z | z
    · rcases List.mem_append.mp z with z | z
      · obtain ⟨ys, q⟩ := has t z
        exact ⟨ys, Option.some.inj (e.symm.trans (s _ _ q))⟩
      · rw [List.mem_singleton.mp z, h1] at e
        exact ⟨xs, (Option.some.inj e).symm⟩
    · rw [z] at e
      cases e
  have one : ∀ (l : List D) (v : V), ps ≠ [] → noL.noLs l = true → IsD K mg ww (hide (L ++ os) H2) (.lst l) v → IsD K mg ww (hide (T ++ os) H2) (.lst l) v := fun l v hne hn q1 => by
    obtain ⟨b, zs, rfl, b1, b2, b3, b4⟩ := lists_new hL s q1
    have nb : b ≠ a := two_ne hK h1 h2 hne hn q1
    rw [IsD]
    refine ⟨b, zs, rfl, hide_some.mpr ⟨fun z => ?_, b2⟩, noLs_hide ls l zs hn (IsDs.same (hide_less fun t ht => List.mem_append_right _ ht) _ _ b4)⟩
    rcases List.mem_append.mp z with z | z
    · rcases hT b z with z | z
      · rcases List.mem_append.mp z with z | z
        · obtain ⟨ys, e⟩ := has b z
          rw [b1] at e
          cases e
        · exact nb (List.mem_singleton.mp z)
      · rw [b2] at z
        cases z
    · exact b3 z
  have go : ∀ (qs : List (List D × List D)) (ys : List V), (∀ p ∈ qs, p ∈ ps) → IsDs K mg ww (hide (L ++ os) H2) (qs.map twoL) ys → IsDs K mg ww (hide (T ++ os) H2) (qs.map twoL) ys := fun qs => by
    induction qs with
    | nil =>
      intro ys _ h
      rw [List.map_nil, IsDs] at h ⊢
      exact h
    | cons p qs ih =>
      intro ys hp h
      rw [List.map_cons, IsDs] at h ⊢
      obtain ⟨x, r, rfl, q1, q2⟩ := h
      refine ⟨x, r, rfl, ?_, ih r (fun l hl => hp l (List.mem_cons_of_mem _ hl)) q2⟩
      have hpm := hp p List.mem_cons_self
      have hne : ps ≠ [] := fun z => by rw [z] at hpm; cases hpm
      obtain ⟨n1, n2⟩ := hno p hpm
      unfold twoL at q1 ⊢
      rw [IsD] at q1 ⊢
      obtain ⟨c, zs, rfl, q3, q4⟩ := q1
      refine ⟨c, zs, rfl, sqT_hide ls (Same.seqT (hide_less fun t ht => List.mem_append_right _ ht) q3), ?_⟩
      rw [IsDs] at q4 ⊢
      obtain ⟨y, r', rfl, q5, q6⟩ := q4
      refine ⟨y, r', rfl, one _ _ hne n1 q5, ?_⟩
      rw [IsDs] at q6 ⊢
      obtain ⟨y', r'', rfl, q7, q8⟩ := q6
      refine ⟨y', r'', rfl, one _ _ hne n2 q7, ?_⟩
      rw [IsDs] at q8 ⊢
      exact q8
  exact go ps xs (fun p hp => hp) h2
end
end DL
namespace DL
open PySem PySem.Spec L2
section
variable {K : PySem.W.Frag} {mg : Str → Option Value} {ww : World} {os : List Addr} {cl : D} {σ : St} {H : Hp}
structure St0 (K : PySem.W.Frag) (mg : Str → Option Value) (ww : World) (os : List Addr) (cl : D) (σ : St) (H : Hp) : Prop where
  len : σ.length = 3
  dom : ∀ a ∈ os, H a ≠ none
  at0 : ∃ v, σ[0]? = some (some v) ∧ IsD K mg ww (hide os H) cl v
theorem St0.same {H' : Hp} (h : St0 K mg ww os cl σ H) (s : Same H H') : St0 K mg ww os cl σ H' := by
  obtain ⟨v, h1, h2⟩ := h.at0
  refine ⟨h.len, fun a ha => ?_, v, h1, IsD.same (hide_same s) _ _ h2⟩
  cases q : H a with
  | none => exact absurd q (h.dom a ha)
  | some o =>
    rw [s a o q]
    exact fun z => nomatch z
theorem St0.set {i : Nat} {v : V} (h : St0 K mg ww os cl σ H) (hi : i ≠ 0) : St0 K mg ww os cl (σ.set i (some v)) H := by
  obtain ⟨v, h1, h2⟩ := h.at0
  refine ⟨by rw [List.length_set]; exact h.len, h.dom, v, ?_, h2⟩
  rw [List.getElem?_set_ne hi]
  exact h1
def NewE (K : PySem.W.Frag) (mg : Str → Option Value) (ww : World) (os : List Addr) (cl : D) (t : TE) (d : D) : Prop :=
  ∀ σ H (Q : VK), St0 K mg ww os cl σ H → (∀ v H' L, AllL H L → Same H H' → Kd K H' → IsD K mg ww (hide (L ++ os) H') d v → Q v H') → t σ H Q
structure Apart (K : PySem.W.Frag) (mg : Str → Option Value) (ww : World) (os : List Addr) (H0 H : Hp) (as : List Addr) (ls : List (List D)) : Prop where
  same : Same H0 H
  new : ∀ a ∈ as, H0 a = none
  good : Paired (fun a l => GoodL K mg ww os H as a l) as ls
theorem Apart.lst {H0 : Hp} {as : List Addr} {ls : List (List D)} (h : Apart K mg ww os H0 H as ls) : ∀ a ∈ as, ∃ xs, H a = some (.lst xs) := fun a ha => by
  obtain ⟨l, _, g⟩ := (paired_memX h.good).1 a ha
  obtain ⟨xs, e, _⟩ := g
  exact ⟨xs, e⟩
where
  paired_memX {α β : Type} {F : α → β → Prop} {l : List α} {l' : List β} (h : Paired F l l') : (∀ a ∈ l, ∃ b, b ∈ l' ∧ F a b) ∧ True := by
    induction h with
    | nil => exact ⟨(fun _ z => nomatch z), trivial⟩
    | @cons a b l l' h1 _ ih =>
      refine ⟨fun x hx => ?_, trivial⟩
      rcases List.mem_cons.mp hx with rfl | hx
      · exact ⟨_, List.mem_cons_self, h1⟩
      · obtain ⟨y, hy, r⟩ := ih.1 x hx
        exact ⟨y, List.mem_cons_of_mem _ hy, r⟩
theorem Apart.plain {H0 H' : Hp} {as L : List Addr} {ls : List (List D)} {l : List D} {v : V} (h : Apart K mg ww os H0 H as ls) (hL : AllL H L) (s : Same H H') (hno : noL.noLs l = true) (hv : IsD K mg ww (hide (L ++ os) H') (.lst l) v) : ∃ a, v = .ref a ∧ H a = none ∧ Apart K mg ww os H0 H' (as ++ [a]) (ls ++ [l]) := by
  obtain ⟨a, xs, rfl, h1, h2, h3, h4⟩ := lists_new hL s hv
  have has : ∀ t ∈ as ++ [a], ∃ ys, H' t = some (.lst ys) := fun t ht => by
    rcases List.mem_append.mp ht with z | z
    · exact (h.lst t z).imp fun ys e => s _ _ e
    · rw [List.mem_singleton.mp z]
      exact ⟨xs, h2⟩
  refine ⟨a, rfl, h1, Same.trans h.same s, fun b hb => ?_, paired_snoc (Paired.imp (fun b l g => g.later s h1) h.good) (GoodL.plain hno has h2 (IsDs.same (hide_less fun t ht => List.mem_append_right _ ht) _ _ h4))⟩
  rcases List.mem_append.mp hb with z | z
  · exact h.new b z
  · rw [List.mem_singleton.mp z]
    cases q : H0 a with
    | none => rfl
    | some o =>
      rw [h.same a o q] at h1
      cases h1
theorem Apart.deep {H0 H' : Hp} {as L : List Addr} {ls : List (List D)} {l : List (List D)} {v : V} (h : Apart K mg ww os H0 H as ls) (hL : AllL H L) (s : Same H H') (hK : Kd K H') (hno : ∀ x ∈ l, noL.noLs x = true) (hv : IsD K mg ww (hide (L ++ os) H') (.lst (l.map D.lst)) v) : ∃ a, v = .ref a ∧ H a = none ∧ Apart K mg ww os H0 H' (as ++ [a]) (ls ++ [l.map D.lst]) := by
  obtain ⟨a, xs, rfl, h1, h2, h3, h4⟩ := lists_new hL s hv
  refine ⟨a, rfl, h1, Same.trans h.same s, fun b hb => ?_, paired_snoc (Paired.imp (fun b l g => g.later s h1) h.good) (GoodL.deep hK hno h.lst hL s h2 h4)⟩
  rcases List.mem_append.mp hb with z | z
  · exact h.new b z
  · rw [List.mem_singleton.mp z]
    cases q : H0 a with
    | none => rfl
    | some o =>
      rw [h.same a o q] at h1
      cases h1
theorem Apart.pairs {H0 H' : Hp} {as L : List Addr} {ls : List (List D)} {l : List (List D × List D)} {v : V} (h : Apart K mg ww os H0 H as ls) (hL : AllL H L) (s : Same H H') (hK : Kd K H') (hno : ∀ p ∈ l, noL.noLs p.1 = true ∧ noL.noLs p.2 = true) (hv : IsD K mg ww (hide (L ++ os) H') (.lst (l.map twoL)) v) : ∃ a, v = .ref a ∧ H a = none ∧ Apart K mg ww os H0 H' (as ++ [a]) (ls ++ [l.map twoL]) := by
  obtain ⟨a, xs, rfl, h1, h2, h3, h4⟩ := lists_new hL s hv
  refine ⟨a, rfl, h1, Same.trans h.same s, fun b hb => ?_, paired_snoc (Paired.imp (fun b l g => g.later s h1) h.good) (GoodL.pairs hK hno h.lst hL s h2 h4)⟩
  rcases List.mem_append.mp hb with z | z
  · exact h.new b z
  · rw [List.mem_singleton.mp z]
    cases q : H0 a with
    | none => rfl
    | some o =>
      rw [h.same a o q] at h1
      cases h1
def tame (l : List D) : Prop := noL.noLs l = true ∨ ∃ ps : List (List D × List D), l = ps.map twoL ∧ ∀ p ∈ ps, noL.noLs p.1 = true ∧ noL.noLs p.2 = true
theorem Apart.tame {H0 H' : Hp} {as L : List Addr} {ls : List (List D)} {l : List D} {v : V} (h : Apart K mg ww os H0 H as ls) (hL : AllL H L) (s : Same H H') (hK : Kd K H') (hno : DL.tame l) (hv : IsD K mg ww (hide (L ++ os) H') (.lst l) v) : ∃ a, v = .ref a ∧ H a = none ∧ Apart K mg ww os H0 H' (as ++ [a]) (ls ++ [l]) := by
  rcases hno with hno | ⟨ps, rfl, hno⟩
  · exact h.plain hL s hno hv
  · exact h.pairs hL s hK hno hv
end
end DL
namespace DL
open PySem PySem.Spec L2
structure RowsAt (K : PySem.W.Frag) (mg : Str → Option Value) (ww : World) (os : List Addr) (H0 H : Hp) (p : Addr) (as : List Addr) (ls : List (List D)) : Prop where
  keep : Same H0 H
  newP : H0 p = none
  at0 : H p = some (.lst (as.map V.ref))
  new : ∀ a ∈ as, H0 a = none
  off : p ∉ as
  items : Paired (fun a l => ∃ xs, H a = some (.lst xs) ∧ IsDs K mg ww (hide (p :: (as ++ os)) H) l xs) as ls
def tListsB (K : PySem.W.Frag) (t0 t1 t2 t3 t4 : TE) (tc : TT) : TS :=
  tSeq (tAsg (tLst (tCons t0 (tCons t1 (tCons t2 (tCons t3 tNil))))) (gName 1))
  (tSeq (tAsg t4 (gName 2))
  (tSeq (tIfS tc (tDrop (tBM K "list" rAppend (tVar 1) (tCons (tVar 2) tNil))) tNext)
  (tRet (tVar 1))))
section
variable {K : PySem.W.Frag} {mg : Str → Option Value} {ww : World} {os : List Addr} {cl : D} {σ : St} {H : Hp} {Q : VK} {nx : St → Hp → Prop}
theorem same_put {H : Hp} {p : Addr} {xs : List V} (h : H p = none) : Same H (upd H p (.lst xs)) := Wv.same_new h
theorem none_of {H H' : Hp} {a : Addr} (s : Same H H') (h : H' a = none) : H a = none := by
  cases q : H a with
  | none => rfl
  | some o =>
    rw [s a o q] at h
    cases h
theorem lists_run {t0 t1 t2 t3 t4 : TE} {tc : TT} {l0 l2 l3 : List D} {l1 : List (List D)} {d4 : D} (n0 : noL.noLs l0 = true) (n1 : ∀ x ∈ l1, noL.noLs x = true) (n2 : noL.noLs l2 = true) (n3 : tame l3) (n4 : d4 = .non ∨ ∃ l4, d4 = .lst l4 ∧ noL.noLs l4 = true)
    (N0 : NewE K mg ww os cl t0 (.lst l0)) (N1 : NewE K mg ww os cl t1 (.lst (l1.map D.lst))) (N2 : NewE K mg ww os cl t2 (.lst l2)) (N3 : NewE K mg ww os cl t3 (.lst l3)) (N4 : NewE K mg ww os cl t4 d4)
    (htc : ∀ σ H (Q : Bool → Hp → Prop) v, σ[2]? = some (some v) → Q (!decide (v = .non)) H → tc σ H Q) (h : St0 K mg ww os cl σ H)
    (fin : ∀ p as H', RowsAt K mg ww os H H' p as ([l0, l1.map D.lst, l2, l3] ++ (match d4 with | .lst l4 => [l4] | _ => [])) → Q (.ref p) H') : tListsB K t0 t1 t2 t3 t4 tc { nx := nx, rt := Q } σ H := by
  refine N0 _ _ _ h fun v0 H1 L0 hL0 s1 k1 i0 => ?_
  obtain ⟨a0, rfl, e0, A1⟩ := Apart.plain (K := K) (mg := mg) (ww := ww) (os := os) (H0 := H) (as := []) (ls := []) ⟨Same.refl H, (fun a z => nomatch z), .nil⟩ hL0 s1 n0 i0
  have h1 := h.same s1
  refine N1 _ _ _ h1 fun v1 H2 L1 hL1 s2 k2 i1 => ?_
  obtain ⟨a1, rfl, e1, A2⟩ := A1.deep hL1 s2 k2 n1 i1
  have h2 := h1.same s2
  refine N2 _ _ _ h2 fun v2 H3 L2' hL2 s3 k3 i2 => ?_
  obtain ⟨a2, rfl, e2, A3⟩ := A2.plain hL2 s3 n2 i2
  have h3 := h2.same s3
  refine N3 _ _ _ h3 fun v3 H4 L3 hL3 s4 k4 i3 => ?_
  obtain ⟨a3, rfl, e3, A4⟩ := A3.tame hL3 s4 k4 n3 i3
  have h4 := h3.same s4
  refine ⟨by show 4 ≤ sizeLine; decide, fun p hp => ?_⟩
  have s5 : Same H4 (upd H4 p (.lst [.ref a0, .ref a1, .ref a2, .ref a3])) := same_put hp
  have h5 := (h4.same s5).set (i := 1) (v := .ref p) (by decide)
  have asl := A4.lst
  have A4n := A4.new
  have A4s := A4.same
  have G := A4.good
  have pn : p ∉ [a0, a1, a2, a3] := fun z => by
    obtain ⟨xs, e⟩ := asl p z
    rw [hp] at e
    cases e
  refine N4 _ _ _ h5 fun v4 H6 L4 hL4 s6 k6 i4 => ?_
  have p6 : H6 p = some (.lst [.ref a0, .ref a1, .ref a2, .ref a3]) := s6 _ _ upd_same
  have sig : ∀ v : V, ((σ.set 1 (some (V.ref p))).set 2 (some v))[2]? = some (some v) := fun v => by
    rw [List.getElem?_set_self (by rw [List.length_set]; have := h.len; omega)]
  have sig1 : ∀ v : V, ((σ.set 1 (some (V.ref p))).set 2 (some v))[1]? = some (some (.ref p)) := fun v => by
    rw [List.getElem?_set_ne (by decide), List.getElem?_set_self (by have := h.len; omega)]
  have S06 : Same H H6 := Same.trans A4s (Same.trans s5 s6)
  rcases n4 with rfl | ⟨l4, rfl, n4⟩
  · rw [IsD] at i4
    subst i4
    refine htc _ _ _ _ (sig _) ?_
    rw [decide_eq_true rfl]
    refine ⟨.ref p, sig1 _, fin p [a0, a1, a2, a3] H6 ⟨S06, none_of A4s hp, p6, A4n, pn, ?_⟩⟩
    refine Paired.imp (fun a l g => ?_) G
    obtain ⟨xs, g1, g2⟩ := g
    refine ⟨xs, s6 _ _ (s5 _ _ g1), IsDs.same (hide_same (Same.trans s5 s6)) _ _ (g2 (p :: [a0, a1, a2, a3]) fun t ht => ?_)⟩
    rcases List.mem_cons.mp ht with z | z
    · exact .inr (by rw [z]; exact hp)
    · exact .inl z
  · obtain ⟨a4, xs4, rfl, f1, f2, f3, f4⟩ := lists_new hL4 s6 i4
    refine htc _ _ _ _ (sig _) ?_
    rw [decide_eq_false (fun z => nomatch z)]
    have a4p : a4 ≠ p := fun z => by rw [z, upd_same] at f1; cases f1
    have f14 : H4 a4 = none := none_of s5 f1
    have pn4 : p ∉ [a0, a1, a2, a3] ++ [a4] := fun z => by
      rcases List.mem_append.mp z with z | z
      · exact pn z
      · exact a4p (List.mem_singleton.mp z).symm
    have keepP : ∀ {T : List Addr}, Same (hide (p :: T) H6) (hide (p :: T) (upd H6 p (.lst ([.ref a0, .ref a1, .ref a2, .ref a3] ++ [.ref a4])))) := fun {T} b o z => by
      obtain ⟨z1, z2⟩ := hide_some.mp z
      refine hide_some.mpr ⟨z1, ?_⟩
      rw [upd_ne fun e => z1 (by rw [e]; exact List.mem_cons_self)]
      exact z2
    refine ⟨.ref p, sig1 _, .inl ⟨rfl, _, SqL.of p6⟩, ⟨_, sig _, ?_⟩⟩
    refine ⟨p, _, .ref a4, rfl, rfl, p6, show 4 < sizeLine by decide, .ref p, sig1 _, fin p ([a0, a1, a2, a3] ++ [a4]) _ ⟨fun b o e => ?_, none_of A4s hp, ?_, fun a ha => ?_, pn4, ?_⟩⟩
    · rw [upd_ne fun z => by rw [z, none_of A4s hp] at e; cases e]
      exact S06 b o e
    · rw [upd_same]
      rfl
    · rcases List.mem_append.mp ha with z | z
      · exact A4n a z
      · rw [List.mem_singleton.mp z]
        exact none_of A4s f14
    · refine paired_snoc (Paired.imp (fun a l g => ?_) G) ?_
      · obtain ⟨xs, g1, g2⟩ := g
        have na : a ≠ p := fun z => by rw [z, hp] at g1; cases g1
        refine ⟨xs, by rw [upd_ne na]; exact s6 _ _ (s5 _ _ g1), IsDs.same (Same.trans (hide_same (Same.trans s5 s6)) keepP) _ _ (g2 (p :: ([a0, a1, a2, a3] ++ [a4])) fun t ht => ?_)⟩
        rcases List.mem_cons.mp ht with z | z
        · exact .inr (by rw [z]; exact hp)
        · rcases List.mem_append.mp z with z | z
          · exact .inl z
          · exact .inr (by rw [List.mem_singleton.mp z]; exact f14)
      · refine ⟨xs4, by rw [upd_ne a4p]; exact f2, IsDs.same keepP _ _ (noLs_hide (L := p :: ([a0, a1, a2, a3] ++ [a4])) (fun t ht o e => ?_) l4 xs4 n4 (IsDs.same (hide_less fun t ht => List.mem_append_right _ ht) _ _ f4))⟩
        rcases List.mem_cons.mp ht with z | z
        · rw [z, p6] at e
          exact ⟨_, (Option.some.inj e).symm⟩
        · rcases List.mem_append.mp z with z | z
          · obtain ⟨ys, q⟩ := asl t z
            exact ⟨ys, Option.some.inj (e.symm.trans (s6 _ _ (s5 _ _ q)))⟩
          · rw [List.mem_singleton.mp z, f2] at e
            exact ⟨_, (Option.some.inj e).symm⟩
end
end DL
namespace DL
open PySem PySem.Spec L2
section
variable {K : PySem.W.Frag} {mg : Str → Option Value} {ww : World} {os : List Addr} {cl : D} {σ : St} {H : Hp} {D0 : Ends}
structure LSt (K : PySem.W.Frag) (mg : Str → Option Value) (ww : World) (os : List Addr) (cl : D) (σ : St) (H : Hp) : Prop where
  len : σ.length = 6
  dom : ∀ a ∈ os, H a ≠ none
  at1 : ∃ v, σ[1]? = some (some v) ∧ IsD K mg ww (hide os H) cl v
theorem refs_of {H : Hp} {os : List Addr} : ∀ {ls : List (List D)} {xs : List V}, IsDs K mg ww (hide os H) (ls.map D.lst) xs → ∃ bs : List Addr, xs = bs.map V.ref ∧ Paired (fun b l => IsD K mg ww (hide os H) (.lst l) (.ref b)) bs ls
  | [], xs, h => by
    rw [List.map_nil, IsDs] at h
    exact ⟨[], h, .nil⟩
  | l :: ls, xs, h => by
    rw [List.map_cons, IsDs] at h
    obtain ⟨x, r, rfl, h1, h2⟩ := h
    obtain ⟨bs, rfl, hp⟩ := refs_of h2
    have h1' := h1
    rw [IsD] at h1
    obtain ⟨b, ys, rfl, _⟩ := h1
    exact ⟨b :: bs, rfl, .cons h1' hp⟩
theorem paired_left {α β : Type} {F : α → β → Prop} {l : List α} {l' : List β} (h : Paired F l l') : ∀ a ∈ l, ∃ b, b ∈ l' ∧ F a b := (Apart.lst.paired_memX h).1
theorem law_run {tR tI tY : TE} {rest : TS} {ls ly : List (List D)} {dI : D} (hly : ∀ x ∈ ly, noL.noLs x = true) (few : ls.length ≤ 1000)
    (hR : ∀ σ H (Q : VK), LSt K mg ww os cl σ H → (∀ p as H', RowsAt K mg ww os H H' p as ls → Q (.ref p) H') → tR σ H Q)
    (hI : ∀ os' σ H (Q : VK), LSt K mg ww os' cl σ H → (∀ v H', Same H H' → IsD K mg ww (hide os' H') dI v → Q v H') → tI σ H Q)
    (hY : ∀ os' σ H (Q : VK), LSt K mg ww os' cl σ H → (∀ v H' L, AllL H L → Same H H' → Kd K H' → IsD K mg ww (hide (L ++ os') H') (.lst (ly.map D.lst)) v → Q v H') → tY σ H Q)
    (h : LSt K mg ww os cl σ H)
    (fin : ∀ σ' H' p as v3 v4, Same H H' → H p = none → H' p ≠ none → (∀ a ∈ as, H a = none ∧ H' a ≠ none) → σ'.length = 6 → σ'[0]? = σ[0]? → σ'[1]? = σ[1]? → σ'[3]? = some (some v3) → σ'[4]? = some (some v4) →
      IsD K mg ww (hide (p :: (as ++ os)) H') (.lst (ls.map D.lst)) v3 → IsD K mg ww (hide (p :: (as ++ os)) H') dI v4 → rest D0 σ' H') :
    tSeq (tAsg tR (gName 2)) (tSeq (tAsg (tLc (iList K (tVar 2)) [none] (gName 0) tYes (tCB (rListAll K) (tCons (tVar 0) tNil))) (gName 3)) (tSeq (tAsg tI (gName 4))
      (tSeq (tFor (iList K tY) (gName 5) (tDrop (tBM0 K "list" rClear (tVar 5)))) (tSeq (tFor (iList K (tVar 2)) (gName 5) (tDrop (tBM0 K "list" rClear (tVar 5)))) rest)))) D0 σ H := by
  have hlen := h.len
  refine hR _ _ _ h fun p as H1 A => ?_
  have asl : ∀ a ∈ as, ∃ xs, H1 a = some (.lst xs) := fun a ha => by
    obtain ⟨l, _, xs, e, _⟩ := paired_left A.items a ha
    exact ⟨xs, e⟩
  have al := Paired.length A.items
  refine ⟨.ref p, by rw [List.getElem?_set_self (by omega)], p, rfl, ⟨_, SqL.of A.at0⟩, fun Da hD => copy_loop (fun _ _ _ q => q) A.at0 asl hD (by omega) fun H2 cs s2 hc hpr => ?_⟩
  have s02 : Same H H2 := Same.trans A.keep s2
  have nin : ∀ {t : Addr}, H1 t = none → t ∉ p :: (as ++ os) := fun {t} ht z => by
    rcases List.mem_cons.mp z with z | z
    · rw [z, A.at0] at ht
      cases ht
    · rcases List.mem_append.mp z with z | z
      · obtain ⟨xs, e⟩ := asl t z
        rw [ht] at e
        cases e
      · exact h.dom t z (none_of A.keep ht)
  have due2 : IsD K mg ww (hide (p :: (as ++ os)) H2) (.lst (ls.map D.lst)) (.ref Da) := by
    rw [IsD]
    refine ⟨Da, _, rfl, hide_some.mpr ⟨nin hD, hc⟩, ?_⟩
    have go : ∀ {as' : List Addr} {ls' : List (List D)} {cs' : List Addr}, Paired (fun a l => ∃ xs, H1 a = some (.lst xs) ∧ IsDs K mg ww (hide (p :: (as ++ os)) H1) l xs) as' ls' → Paired (fun c b => ∃ xs, H1 b = some (.lst xs) ∧ H2 c = some (.lst xs) ∧ H1 c = none ∧ c ≠ Da) cs' as' → IsDs K mg ww (hide (p :: (as ++ os)) H2) (ls'.map D.lst) (cs'.map V.ref) := by
      intro as' ls' cs' q1
      induction q1 generalizing cs' with
      | nil =>
        intro q2
        cases q2
        rw [List.map_nil, List.map_nil, IsDs]
      | cons g1 _ ih =>
        intro q2
        cases q2 with
        | cons g2 q2 =>
          obtain ⟨xs, e1, e2⟩ := g1
          obtain ⟨ys, e3, e4, e5, _⟩ := g2
          rw [e1] at e3
          cases e3
          rw [List.map_cons, List.map_cons, IsDs]
          refine ⟨_, _, rfl, ?_, ih q2⟩
          rw [IsD]
          exact ⟨_, _, rfl, hide_some.mpr ⟨nin e5, e4⟩, IsDs.same (hide_same s2) _ _ e2⟩
    exact go A.items hpr
  have hs2 : LSt K mg ww (p :: (as ++ os)) cl ((σ.set 2 (some (.ref p))).set 3 (some (.ref Da))) H2 := by
    obtain ⟨v, v1, v2⟩ := h.at1
    refine ⟨by rw [List.length_set, List.length_set]; exact hlen, fun a ha => ?_, v, by rw [List.getElem?_set_ne (by decide), List.getElem?_set_ne (by decide)]; exact v1, IsD.same (fun b o z => ?_) _ _ v2⟩
    · rcases List.mem_cons.mp ha with z | z
      · rw [z, s2 _ _ A.at0]
        exact fun z => nomatch z
      · rcases List.mem_append.mp z with z | z
        · obtain ⟨xs, e⟩ := asl a z
          rw [s2 _ _ e]
          exact fun z => nomatch z
        · intro q
          exact h.dom a z (none_of s02 q)
    · obtain ⟨z1, z2⟩ := hide_some.mp z
      refine hide_some.mpr ⟨fun q => ?_, s02 b o z2⟩
      rcases List.mem_cons.mp q with q | q
      · rw [q, A.newP] at z2
        cases z2
      · rcases List.mem_append.mp q with q | q
        · rw [A.new b q] at z2
          cases z2
        · exact z1 q
  refine hI _ _ _ _ hs2 fun v4 H3 s3 i4 => ?_
  have hs3 : LSt K mg ww (p :: (as ++ os)) cl (((σ.set 2 (some (.ref p))).set 3 (some (.ref Da))).set 4 (some v4)) H3 := by
    obtain ⟨v, v1, v2⟩ := hs2.at1
    refine ⟨by rw [List.length_set]; exact hs2.len, fun a ha q => hs2.dom a ha (none_of s3 q), v, by rw [List.getElem?_set_ne (by decide)]; exact v1, IsD.same (hide_same s3) _ _ v2⟩
  have due3 := IsD.same (hide_same s3) _ _ due2
  refine hY _ _ _ _ hs3 fun v H4 L hL s4 k4 i5 => ?_
  obtain ⟨a, xs, rfl, n1, n2, n3, n4⟩ := lists_new hL s4 i5
  obtain ⟨bs, rfl, hbs⟩ := refs_of n4
  have bnew : ∀ b ∈ bs, H3 b = none ∧ ∃ ys, H4 b = some (.lst ys) := fun b hb => by
    obtain ⟨l, _, q⟩ := paired_left hbs b hb
    obtain ⟨b', ys, e, m1, m2, _⟩ := lists_new hL s4 q
    cases e
    exact ⟨m1, ys, m2⟩
  have aoff : a ∉ bs := fun hb => by
    obtain ⟨l, hl, q⟩ := paired_left hbs a hb
    exact inner_ne k4 n2 (List.mem_map_of_mem hb) (hly l hl) q rfl
  refine ⟨a, rfl, ⟨_, SqL.of n2⟩, clear_loop n2 (fun b hb => (bnew b hb).2) aoff (by rw [hs3.len]; decide) fun σ5 H5 hσ5 keep5 _ => ?_⟩
  have s35 : Same H3 H5 := fun b o e => keep5 b o (fun z => by rw [(bnew b z).1] at e; cases e) (s4 b o e)
  have at5 : ∀ j, j ≠ 5 → σ5[j]? = (((σ.set 2 (some (.ref p))).set 3 (some (.ref Da))).set 4 (some v4))[j]? := fun j hj => by
    rcases hσ5 with rfl | ⟨x, rfl⟩
    · rfl
    · rw [List.getElem?_set_ne (Ne.symm hj)]
  have len5 : σ5.length = 6 := by
    rcases hσ5 with rfl | ⟨x, rfl⟩
    · exact hs3.len
    · rw [List.length_set]; exact hs3.len
  have s15 : Same H1 H5 := Same.trans s2 (Same.trans s3 s35)
  refine ⟨.ref p, ?_, p, rfl, ⟨_, SqL.of (s15 _ _ A.at0)⟩, clear_loop (s15 _ _ A.at0) (fun b hb => (asl b hb).imp fun xs e => s15 _ _ e) A.off (by rw [len5]; decide) fun σ6 H6 hσ6 keep6 left6 => ?_⟩
  · rw [at5 2 (by decide), List.getElem?_set_ne (by decide), List.getElem?_set_ne (by decide), List.getElem?_set_self (by omega)]
  have at6 : ∀ j, j ≠ 5 → σ6[j]? = (((σ.set 2 (some (.ref p))).set 3 (some (.ref Da))).set 4 (some v4))[j]? := fun j hj => by
    rw [← at5 j hj]
    rcases hσ6 with rfl | ⟨x, rfl⟩
    · rfl
    · rw [List.getElem?_set_ne (Ne.symm hj)]
  have s56 : Same (hide (p :: (as ++ os)) H5) (hide (p :: (as ++ os)) H6) := fun b o z => by
    obtain ⟨z1, z2⟩ := hide_some.mp z
    exact hide_some.mpr ⟨z1, keep6 b o (fun q => z1 (List.mem_cons_of_mem _ (List.mem_append_left _ q))) z2⟩
  have s36 := Same.trans (hide_same (T := p :: (as ++ os)) s35) s56
  refine fin σ6 H6 p as (.ref Da) v4 (fun b o e => keep6 b o (fun z => by rw [A.new b z] at e; cases e) (s15 b o (A.keep b o e))) A.newP ?_ (fun c hc => ⟨A.new c hc, ?_⟩) ?_ ?_ ?_ ?_ ?_ (IsD.same s36 _ _ due3) (IsD.same s36 _ _ i4)
  · rw [keep6 p _ A.off (s15 _ _ A.at0)]
    exact fun z => nomatch z
  · obtain ⟨ys, e⟩ := left6 c hc
    rw [e]
    exact fun z => nomatch z
  · rcases hσ6 with rfl | ⟨x, rfl⟩
    · exact len5
    · rw [List.length_set]; exact len5
  · rw [at6 0 (by decide), List.getElem?_set_ne (by decide), List.getElem?_set_ne (by decide), List.getElem?_set_ne (by decide)]
  · rw [at6 1 (by decide), List.getElem?_set_ne (by decide), List.getElem?_set_ne (by decide), List.getElem?_set_ne (by decide)]
  · rw [at6 3 (by decide), List.getElem?_set_ne (by decide), List.getElem?_set_self (by rw [List.length_set]; omega)]
  · rw [at6 4 (by decide), List.getElem?_set_self (by rw [List.length_set, List.length_set]; omega)]
end
end DL
namespace DL
open PySem PySem.Spec L2
section
variable {K : PySem.W.Frag} {mg : Str → Option Value} {ww : World} {os : List Addr} {cl : D} {σ : St} {H : Hp} {E : XK}
theorem St0.hd (h : St0 K mg ww os cl σ H) : Hd K mg ww [false, false, false] os H σ [some cl, none, none] := by
  obtain ⟨v, h1, h2⟩ := h.at0
  have ow : ∀ i, ([false, false, false] : List Bool).getD i false = false := fun i => by
    match i with
    | 0 | 1 | 2 => rfl
    | _ + 3 => rfl
  refine ⟨h.len, h.dom, fun i d _ hd => ?_, fun i d z _ => ?_, fun i j a d e _ z _ _ _ _ _ => ?_⟩
  · match i, hd with
    | 0, hd =>
      cases hd
      exact ⟨v, h1, h2⟩
    | 1, hd => cases hd
    | 2, hd => cases hd
    | _ + 3, hd => cases hd
  · rw [ow i] at z
    cases z
  · rw [ow i] at z
    cases z
theorem newE_call {ms : Ev → R (List D)} {g : List D → R D} {ds : List D} {d : D} (hm : ms [some cl, none, none] = .ok ds) (hno : noL.noLs ds = true) (hg : g ds = .ok d) : NewE K mg ww os cl (tKd K (tN K mg ww E [false, false, false] ms g)) d := fun σ H Q h q => by
  refine ⟨os, [some cl, none, none], ds, h.hd, hm, hno, ?_⟩
  rw [hg]
  exact fun v H' L hL s i k => q v H' L hL s k i
theorem newE_ix {ms : Ev → R (List D)} {g : List D → R D} {ds : List D} {d e : D} {i : Int} (hm : ms [some cl, none, none] = .ok ds) (hno : noL.noLs ds = true) (hg : g ds = .ok d) (hi : ixD d (.int i) = .ok e) : NewE K mg ww os cl (tKd K (tOp (rIx K) (tN K mg ww E [false, false, false] ms g) (tC (.int i)))) e := fun σ H Q h q => by
  refine ⟨os, [some cl, none, none], ds, h.hd, hm, hno, ?_⟩
  rw [hg]
  intro v H' L hL s w
  have dom' : ∀ a ∈ L ++ os, H' a ≠ none := fun a ha => by
    rcases List.mem_append.mp ha with z | z
    · obtain ⟨xs, e⟩ := hL.only a z
      rw [s a _ e]
      exact fun z => nomatch z
    · exact fun q => h.dom a z (none_of s q)
  refine o_ix (K := K) (mg := mg) (ww := ww) E (L ++ os) H' v (.int i) d (.int i) _ dom' (.inl w) (.inl (by rw [IsD])) ?_
  rw [hi]
  exact fun v2 H2 s2 w2 k => q v2 H2 L hL (Same.trans s s2) k w2
structure Five (m0 m1 m3 m4 : List D → R D) (m2' : List D → R D) (cl : D) (l0 : List D) (l1 : List (List D)) (l2 l3 : List D) (d4 : D) : Prop where
  no : noL cl = true
  e0 : m0 [cl] = .ok (.lst l0)
  e1 : m1 [cl] = .ok (.lst (l1.map D.lst))
  e2 : m2' [cl, .tup [.str "warp", .int 0]] = .ok (.lst l2)
  e3 : ∃ c, m3 [cl] = .ok c ∧ ixD c (.int 1) = .ok (.lst l3)
  e4 : m4 [cl] = .ok d4
  n0 : noL.noLs l0 = true
  n1 : ∀ x ∈ l1, noL.noLs x = true
  n2 : noL.noLs l2 = true
  n3 : tame l3
  n4 : d4 = .non ∨ ∃ l4, d4 = .lst l4 ∧ noL.noLs l4 = true
def rowsOf (l0 : List D) (l1 : List (List D)) (l2 l3 : List D) (d4 : D) : List (List D) := [l0, l1.map D.lst, l2, l3] ++ (match d4 with | .lst l4 => [l4] | _ => [])
def spL (K : PySem.W.Frag) (mg : Str → Option Value) (ww : World) (m0 m1 m2' m3 m4 : List D → R D) : Sp := fun vs H Q _ => ∃ os cl v l0 l1 l2 l3 d4, vs = [v] ∧ (∀ a ∈ os, H a ≠ none) ∧ IsD K mg ww (hide os H) cl v ∧ Five m0 m1 m3 m4 m2' cl l0 l1 l2 l3 d4 ∧ ∀ p as H', RowsAt K mg ww os H H' p as (rowsOf l0 l1 l2 l3 d4) → Q (.ref p) H'
theorem spL_run {m0 m1 m2' m3 m4 : List D → R D} {vs : List V} {Q : VK} {tc : TT} {nx : St → Hp → Prop} (htc : ∀ σ H (Q : Bool → Hp → Prop) v, σ[2]? = some (some v) → Q (!decide (v = .non)) H → tc σ H Q) (h : spL K mg ww m0 m1 m2' m3 m4 vs H Q E) :
    tListsB K (tKd K (tN K mg ww E [false, false, false] (mCons (mV 0) mNil) m0)) (tKd K (tN K mg ww E [false, false, false] (mCons (mV 0) mNil) m1)) (tKd K (tN K mg ww E [false, false, false] (mCons (mV 0) (mCons (mTup (mCons (mC (.str "warp")) (mCons (mC (.int 0)) mNil))) mNil)) m2'))
      (tKd K (tOp (rIx K) (tN K mg ww E [false, false, false] (mCons (mV 0) mNil) m3) (tC (.int 1)))) (tKd K (tN K mg ww E [false, false, false] (mCons (mV 0) mNil) m4)) tc { nx := nx, rt := Q } (start ["_law_cloth_here", "_law_found", "_law_lift"] vs) H := by
  obtain ⟨os, cl, v, l0, l1, l2, l3, d4, rfl, dm, hv, f, fin⟩ := h
  obtain ⟨c, e3, e3'⟩ := f.e3
  have n1 : noL.noLs [cl] = true := by rw [noL.noLs, f.no]; rfl
  have n2 : noL.noLs [cl, .tup [.str "warp", .int 0]] = true := by rw [noL.noLs, f.no]; rfl
  exact lists_run f.n0 f.n1 f.n2 f.n3 f.n4 (newE_call rfl n1 f.e0) (newE_call rfl n1 f.e1) (newE_call rfl n2 f.e2) (newE_ix rfl n1 e3 e3') (newE_call rfl n1 f.e4) htc ⟨rfl, dm, v, rfl, hv⟩ fin
end
end DL
namespace DL
open PySem PySem.Spec L2
section
variable {K : PySem.W.Frag} {mg : Str → Option Value} {ww : World} {os : List Addr} {cl : D} {σ : St} {H : Hp} {E : XK}
abbrev ow6 : List Bool := [false, false, false, false, false, false]
theorem ow6_f (i : Nat) : ow6.getD i false = false := by
  match i with
  | 0 | 1 | 2 | 3 | 4 | 5 => rfl
  | _ + 6 => rfl
theorem LSt.hd (h : LSt K mg ww os cl σ H) : Hd K mg ww ow6 os H σ [none, some cl, none, none, none, none] := by
  obtain ⟨v, h1, h2⟩ := h.at1
  refine ⟨h.len, h.dom, fun i d _ hd => ?_, fun i d z _ => ?_, fun i j a d e _ z _ _ _ _ _ => ?_⟩
  · match i, hd with
    | 1, hd =>
      cases hd
      exact ⟨v, h1, h2⟩
    | 0, hd => cases hd
    | 2, hd => cases hd
    | 3, hd => cases hd
    | 4, hd => cases hd
    | 5, hd => cases hd
    | _ + 6, hd => cases hd
  · rw [ow6_f i] at z
    cases z
  · rw [ow6_f i] at z
    cases z
def tBig (K : PySem.W.Frag) (tR tI tY : TE) (rest : TS) : TS :=
  tSeq (tAsg tR (gName 2)) (tSeq (tAsg (tLc (iList K (tVar 2)) [none] (gName 0) tYes (tCB (rListAll K) (tCons (tVar 0) tNil))) (gName 3)) (tSeq (tAsg tI (gName 4))
      (tSeq (tFor (iList K tY) (gName 5) (tDrop (tBM0 K "list" rClear (tVar 5)))) (tSeq (tFor (iList K (tVar 2)) (gName 5) (tDrop (tBM0 K "list" rClear (tVar 5)))) rest))))
structure BigOk (m0 m1 m2' m3 m4 : List D → R D) (mI : Ev → R D) (k : Ev → R Fl) (ρ : Ev) (r : R Fl) : Prop where
  ex : ∃ s cl l0 l1 l2 l3 d4 dI, ρ = [some s, some cl, none, none, none, none] ∧ Five m0 m1 m3 m4 m2' cl l0 l1 l2 l3 d4 ∧ mI [none, some cl, none, none, none, none] = .ok dI ∧ r = k [some s, some cl, none, some (.lst ((rowsOf l0 l1 l2 l3 d4).map D.lst)), some dI, none]
open Classical in
noncomputable def sBig (m0 m1 m2' m3 m4 : List D → R D) (mI : Ev → R D) (k : Ev → R Fl) : Ev → R Fl := fun ρ => if h : ∃ r, BigOk m0 m1 m2' m3 m4 mI k ρ r then h.choose else .bad
theorem big_go {m0 m1 m2' m3 m4 : List D → R D} {mI : Ev → R D} {k : Ev → R Fl} {tR : TE} {rest : TS} {Dn : Ends}
    (hR : ∀ os cl σ H (Q : VK) l0 l1 l2 l3 d4, LSt K mg ww os cl σ H → Five m0 m1 m3 m4 m2' cl l0 l1 l2 l3 d4 → (∀ p as H', RowsAt K mg ww os H H' p as (rowsOf l0 l1 l2 l3 d4) → Q (.ref p) H') → tR σ H Q)
    (hrest : ∀ D σ H, tS K mg ww ow6 E k D σ H → rest D σ H)
    (h : tS K mg ww ow6 E (sBig m0 m1 m2' m3 m4 mI k) Dn σ H) : tBig K tR (tE K mg ww .d E ow6 mI) (tKd K (tN K mg ww E ow6 (mCons (mV 1) mNil) m1)) rest Dn σ H := by
  obtain ⟨fro, own, ρ, st, o⟩ := h
  unfold sBig at o
  split at o
  rotate_left
  · exact o.elim
  rename_i hex
  obtain ⟨s, cl, l0, l1, l2, l3, d4, dI, rfl, five, hmI, hr⟩ := hex.choose_spec.ex
  rw [hr] at o
  have hd := st.hd
  have len : σ.length = 6 := hd.len
  obtain ⟨v1, c1, c2⟩ := hd.imm 1 cl rfl rfl
  obtain ⟨v0, z1, z2⟩ := hd.imm 0 s rfl rfl
  have L : LSt K mg ww (own ++ fro) cl σ H := ⟨len, hd.dom, v1, c1, c2⟩
  have n1 : noL.noLs [cl] = true := by rw [noL.noLs, five.no]; rfl
  have few : (rowsOf l0 l1 l2 l3 d4).length ≤ 1000 := by
    unfold rowsOf
    cases d4 <;> simp
  refine law_run (ly := l1) (dI := dI) five.n1 few (fun σ H Q l q => hR _ _ _ _ _ _ _ _ _ _ l five q) (fun os' σ H Q l q => ⟨os', _, l.hd, by rw [hmI]; exact q⟩) (fun os' σ H Q l q => ⟨os', _, [cl], l.hd, rfl, n1, by rw [five.e1]; exact fun v H' L hL s i k => q v H' L hL s k i⟩) L
    fun σ' H' p as v3 v4 sm pn pn' an l6 at0 at1 at3 at4 i3 i4 => hrest _ _ _ ⟨fro, p :: (as ++ own), [some s, some cl, none, some (.lst ((rowsOf l0 l1 l2 l3 d4).map D.lst)), some dI, none], ⟨⟨l6, fun a ha => ?_, fun i d _ hi => ?_, fun i d z _ => ?_, fun i j a d e _ z _ _ _ _ _ => ?_⟩, fun i a d z _ _ => ?_, fun a ha hf => ?_⟩, o.ext ⟨fun b x _ e => sm b x e, fun a ha => ?_⟩⟩
  · rw [List.cons_append, List.append_assoc] at ha
    rcases List.mem_cons.mp ha with e | ha
    · rw [e]; exact pn'
    · rcases List.mem_append.mp ha with z | z
      · exact (an a z).2
      · exact fun q => hd.dom a z (none_of sm q)
  · rw [List.cons_append, List.append_assoc]
    have up : Same (hide (own ++ fro) H) (hide (p :: (as ++ (own ++ fro))) H') := fun b x z => by
      obtain ⟨y1, y2⟩ := hide_some.mp z
      refine hide_some.mpr ⟨fun q => ?_, sm b x y2⟩
      rcases List.mem_cons.mp q with q | q
      · rw [q, pn] at y2
        cases y2
      · rcases List.mem_append.mp q with q | q
        · rw [(an b q).1] at y2
          cases y2
        · exact y1 q
    match i, hi with
    | 0, hi =>
      cases hi
      exact ⟨v0, by rw [at0]; exact z1, IsD.same up _ _ z2⟩
    | 1, hi =>
      cases hi
      exact ⟨v1, by rw [at1]; exact c1, IsD.same up _ _ c2⟩
    | 2, hi => cases hi
    | 3, hi =>
      cases hi
      exact ⟨v3, at3, i3⟩
    | 4, hi =>
      cases hi
      exact ⟨v4, at4, i4⟩
    | 5, hi => cases hi
    | _ + 6, hi => cases hi
  · rw [ow6_f i] at z
    cases z
  · rw [ow6_f i] at z
    cases z
  · rw [ow6_f i] at z
    cases z
  · have hf' : H a ≠ none := hd.dom a (List.mem_append_right _ hf)
    rcases List.mem_cons.mp ha with e | ha
    · rw [e] at hf'
      exact hf' pn
    · rcases List.mem_append.mp ha with z | z
      · exact hf' (an a z).1
      · exact st.off a z hf
  · rcases List.mem_cons.mp ha with e | ha
    · exact .inr (by rw [e]; exact pn)
    · rcases List.mem_append.mp ha with z | z
      · exact .inr (an a z).1
      · exact .inl z
end
end DL
namespace DL
open PySem PySem.Spec L2
theorem map_lst_inj : ∀ {a b : List (List D)}, a.map D.lst = b.map D.lst → a = b
  | [], [], _ => rfl
  | x :: a, y :: b, h => by
    rw [List.map_cons, List.map_cons] at h
    obtain ⟨h1, h2⟩ := List.cons.inj h
    rw [D.lst.inj h1, map_lst_inj h2]
section
variable {m0 m1 m2' m3 m4 : List D → R D} {mI : Ev → R D} {k : Ev → R Fl} {ρ : Ev}
theorem five_uni {cl d4 d4' : D} {l0 l0' l2 l2' l3 l3' : List D} {l1 l1' : List (List D)} (a : Five m0 m1 m3 m4 m2' cl l0 l1 l2 l3 d4) (b : Five m0 m1 m3 m4 m2' cl l0' l1' l2' l3' d4') : l0 = l0' ∧ l1 = l1' ∧ l2 = l2' ∧ l3 = l3' ∧ d4 = d4' := by
  obtain ⟨c, c1, c2⟩ := a.e3
  obtain ⟨c', c1', c2'⟩ := b.e3
  have e3 := R.ok.inj (c1.symm.trans c1')
  subst e3
  exact ⟨D.lst.inj (R.ok.inj (a.e0.symm.trans b.e0)), map_lst_inj (D.lst.inj (R.ok.inj (a.e1.symm.trans b.e1))), D.lst.inj (R.ok.inj (a.e2.symm.trans b.e2)), D.lst.inj (R.ok.inj (c2.symm.trans c2')), R.ok.inj (a.e4.symm.trans b.e4)⟩
theorem big_uni {r r' : R Fl} (a : BigOk m0 m1 m2' m3 m4 mI k ρ r) (b : BigOk m0 m1 m2' m3 m4 mI k ρ r') : r = r' := by
  obtain ⟨s, cl, l0, l1, l2, l3, d4, dI, rfl, f, hI, rfl⟩ := a.ex
  obtain ⟨s', cl', l0', l1', l2', l3', d4', dI', e, f', hI', rfl⟩ := b.ex
  injection e with e1 e2
  injection e2 with e2 _
  cases e1
  cases e2
  obtain ⟨rfl, rfl, rfl, rfl, rfl⟩ := five_uni f f'
  rw [R.ok.inj (hI.symm.trans hI')]
theorem big_is {r : R Fl} (h : BigOk m0 m1 m2' m3 m4 mI k ρ r) : sBig m0 m1 m2' m3 m4 mI k ρ = r := by
  have hex : ∃ r, BigOk m0 m1 m2' m3 m4 mI k ρ r := ⟨r, h⟩
  unfold sBig
  rw [dif_pos hex]
  exact big_uni hex.choose_spec h
end
end DL
namespace Wv
open PySem L2
def top (i : Nat) : Stmt := PySem.Challenge.pw_weavehall_k18_nothing_is_kept.main.body.getD i (.Pass ⟨0, 0, 0, 0⟩)
abbrev s_is_number_below : Stmt := top 4
abbrev s_threads : Stmt := top 6
abbrev s_is_thread : Stmt := top 7
abbrev s_checked_thread : Stmt := top 8
abbrev s_above : Stmt := top 9
abbrev s_lifts_with : Stmt := top 11
abbrev s_lying_above : Stmt := top 12
abbrev s_layers : Stmt := top 13
abbrev s_a_lift : Stmt := top 14
abbrev s_colours_for : Stmt := top 17
abbrev s_ways_from : Stmt := top 18
abbrev s_led_to : Stmt := top 19
abbrev s_crossings_of : Stmt := top 20
abbrev s_clash : Stmt := top 21
abbrev s__law_cell : Stmt := top 23
abbrev s__law_mix : Stmt := top 24
abbrev s__law_size : Stmt := top 25
abbrev s__law_cloth : Stmt := top 26
abbrev s__law_lists : Stmt := top 27
abbrev s_law : Stmt := top 28
end Wv
namespace DL
open PySem PySem.Spec PyProof.Rows L2 Wv
structure Pr (K : PySem.W.Frag) (mg : Str → Option Value) (w : World) (aNoThread : Addr) : Prop where
  b_bool : mg "bool" = none
  b_enumerate : mg "enumerate" = none
  b_int : mg "int" = none
  b_isinstance : mg "isinstance" = none
  b_len : mg "len" = none
  b_list : mg "list" = none
  b_range : mg "range" = none
  b_sorted : mg "sorted" = none
  b_str : mg "str" = none
  b_tuple : mg "tuple" = none
  c_COLOURS : GTup K mg w "COLOURS" [.int 0, .int 1, .int 2]
  k_NoThread : mg "NoThread" = some (.ref aNoThread)
  x_NoThread : ExcCls K aNoThread
  d_is_number_below : ∃ f fd, DefOk K mg "is_number_below" s_is_number_below ["thing", "bound"] f fd
  d_threads : ∃ f fd, DefOk K mg "threads" s_threads ["cloth"] f fd
  d_is_thread : ∃ f fd, DefOk K mg "is_thread" s_is_thread ["cloth", "thing"] f fd
  d_checked_thread : ∃ f fd, DefOk K mg "checked_thread" s_checked_thread ["cloth", "thing"] f fd
  d_above : ∃ f fd, DefOk K mg "above" s_above ["cloth", "one", "other"] f fd
  d_lying_above : ∃ f fd, DefOk K mg "lying_above" s_lying_above ["cloth", "thread"] f fd
  d_lifts_with : ∃ f fd, DefOk K mg "lifts_with" s_lifts_with ["cloth", "thread"] f fd
  d_layers : ∃ f fd, DefOk K mg "layers" s_layers ["cloth"] f fd
  d_a_lift : ∃ f fd, DefOk K mg "a_lift" s_a_lift ["cloth"] f fd
  d_crossings_of : ∃ f fd, DefOk K mg "crossings_of" s_crossings_of ["picture", "thread"] f fd
  d_led_to : ∃ f fd, DefOk K mg "led_to" s_led_to ["picture", "step"] f fd
  d_ways_from : ∃ f fd, DefOk K mg "ways_from" s_ways_from ["picture", "first"] f fd
  d_clash : ∃ f fd, DefOk K mg "clash" s_clash ["ways"] f fd
  d_colours_for : ∃ f fd, DefOk K mg "colours_for" s_colours_for ["picture"] f fd
  d__law_cell : ∃ f fd, DefOk K mg "_law_cell" s__law_cell ["_law_script", "_law_k"] f fd
  d__law_mix : ∃ f fd, DefOk K mg "_law_mix" s__law_mix ["_law_cell_here", "_law_prime", "_law_many"] f fd
  d__law_size : ∃ f fd, DefOk K mg "_law_size" s__law_size ["_law_cell_here"] f fd
  d__law_cloth : ∃ f fd, DefOk K mg "_law_cloth" s__law_cloth ["_law_script", "_law_at"] f fd
  d__law_lists : ∃ f fd, DefOk K mg "_law_lists" s__law_lists ["_law_cloth_here"] f fd
section
variable {P : Program} {w : World} {K : PySem.W.Frag} {mg : Str → Option Value} {base : Heap} {aNoThread : Addr}
def mb_is_number_below : Ev → R Fl := (sRet (mAnd (mInst isIntD (mV 0)) (mAnd (mNot (mInst isBoolD (mV 0))) (mChain (mC (.int 0)) (mV 0) (mV 1) leD ltD))))
def m_is_number_below : List D → R D := runB 2 mb_is_number_below
theorem sc_is_number_below : FnScope ["thing", "bound"] ["thing", "bound"] (defScope s_is_number_below) := ⟨rfl, rfl, rfl, by decide +kernel, rfl, by decide +kernel, by decide +kernel⟩
set_option maxHeartbeats 4000000 in
theorem fn_is_number_below (p : Pr K mg w aNoThread) {f : Addr} {fd : FuncData} (D : DefOk K mg "is_number_below" s_is_number_below ["thing", "bound"] f fd) : FnOk P w K mg base (CX1 P w) 1 f fd ["thing", "bound"] (spD K mg w 2 m_is_number_below) := by
  refine fnD (ow := [false, false]) (k := 0) D.F sc_is_number_below rfl fun cdv A outer s H E hr => ?_
  have hu := hr.units
  exact (ss_one (s_ret (e_and (e_inst kit_int p.b_isinstance p.b_int Wv.bt_int (bd (e_var 0))) (e_and (e_not (e_inst kit_bool p.b_isinstance p.b_bool Wv.bt_bool (bd (e_var 0)))) (e_one (e_chain op_le o_le op_lt o_lt (bd e_int) (bd (e_var 0)) (bd (e_var 1))))))))
def mb_threads : Ev → R Fl := (sSeq (sSet 1 (mLc (mIt (mCons (mFn lenD (mCons (m2 (mV 0) (mC (.int 0)) ixD) mNil)) mNil) ran1) [none] (gN 0) mYes (mTup (mCons (mC (.str "warp")) (mCons (mV 0) mNil)))))
  (sSeq (sSet 2 (mLc (mIt (mCons (mFn lenD (mCons (mV 0) mNil)) mNil) ran1) [none] (gN 0) mYes (mTup (mCons (mC (.str "weft")) (mCons (mV 0) mNil)))))
  (sRet (m2 (mV 1) (mV 2) addD))))
def m_threads : List D → R D := runB 3 mb_threads
theorem sc_threads : FnScope ["cloth", "warps", "wefts"] ["cloth"] (defScope s_threads) := ⟨rfl, rfl, rfl, by decide +kernel, rfl, by decide +kernel, by decide +kernel⟩
set_option maxHeartbeats 4000000 in
theorem fn_threads (p : Pr K mg w aNoThread) {f : Addr} {fd : FuncData} (D : DefOk K mg "threads" s_threads ["cloth"] f fd) : FnOk P w K mg base (CX1 P w) 1 f fd ["cloth"] (spD K mg w 1 m_threads) := by
  refine fnD (ow := [false, false, false]) (k := 0) D.F sc_threads rfl fun cdv A outer s H E hr => ?_
  have hu := hr.units
  exact (ss_cons (s_setLc (i := 1) sc_threads.nd (N' := ["number"]) (src := [none]) (LcOk.of ["cloth", "warps", "wefts"] (defScope s_threads) rfl rfl (by decide +kernel)) (i_ran1 p.b_range (a_b (bd (e_callB callLen o_len p.b_len Wv.bt_len (a_b (bd (e_ix ixAll o_ix (bd (e_var 0)) (bd e_int))) a_nil))) a_nil)) (fun _ _ _ _ => (g_name (i := 0) (show (["number"] : List Str).Nodup by decide +kernel))) (fun _ _ _ _ => ptl_yes) (fun _ _ _ _ => (e_tup (a_d e_str (a_d (e_var 0) a_nil)))) sub_N src_ok)
    (ss_cons (s_setLc (i := 2) sc_threads.nd (N' := ["number"]) (src := [none]) (LcOk.of ["cloth", "warps", "wefts"] (defScope s_threads) rfl rfl (by decide +kernel)) (i_ran1 p.b_range (a_b (bd (e_callB callLen o_len p.b_len Wv.bt_len (a_b (bd (e_var 0)) a_nil))) a_nil)) (fun _ _ _ _ => (g_name (i := 0) (show (["number"] : List Str).Nodup by decide +kernel))) (fun _ _ _ _ => ptl_yes) (fun _ _ _ _ => (e_tup (a_d e_str (a_d (e_var 0) a_nil)))) sub_N src_ok)
    (ss_one (s_ret (e_op op_addAll o_add (bd (e_var 1)) (bd (e_var 2)))))))
def mb_is_thread : Ev → R Fl := (sSeq (sIf (mTor (mTn (mTru (mInst isTupD (mV 1)))) (mTor (mTst (m2 (mFn lenD (mCons (mV 1) mNil)) (mC (.int 2)) neD)) (mTn (mTru (mInst isStrD (m2 (mV 1) (mC (.int 0)) ixD))))))
  (sRet (mC (.bl false)))
  sNil)
  (sSeq (sIf (mTst (m2 (m2 (mV 1) (mC (.int 0)) ixD) (mC (.str "warp")) eqD))
  (sRet (mFn m_is_number_below (mCons (m2 (mV 1) (mC (.int 1)) ixD) (mCons (mFn lenD (mCons (m2 (mV 0) (mC (.int 0)) ixD) mNil)) mNil))))
  sNil)
  (sRet (mAnd (m2 (m2 (mV 1) (mC (.int 0)) ixD) (mC (.str "weft")) eqD) (mFn m_is_number_below (mCons (m2 (mV 1) (mC (.int 1)) ixD) (mCons (mFn lenD (mCons (mV 0) mNil)) mNil)))))))
def m_is_thread : List D → R D := runB 2 mb_is_thread
theorem sc_is_thread : FnScope ["cloth", "thing"] ["cloth", "thing"] (defScope s_is_thread) := ⟨rfl, rfl, rfl, by decide +kernel, rfl, by decide +kernel, by decide +kernel⟩
set_option maxHeartbeats 4000000 in
theorem fn_is_thread (p : Pr K mg w aNoThread) {f : Addr} {fd : FuncData} (D : DefOk K mg "is_thread" s_is_thread ["cloth", "thing"] f fd) : FnOk P w K mg base (CX1 P w) 2 f fd ["cloth", "thing"] (spD K mg w 2 m_is_thread) := by
  obtain ⟨f_is_number_below, fd_is_number_below, D_is_number_below⟩ := p.d_is_number_below
  have G_is_number_below := fn_is_number_below (P := P) (w := w) (base := base) p D_is_number_below
  refine fnD (ow := [false, false]) (k := 1) D.F sc_is_thread rfl fun cdv A outer s H E hr => ?_
  have hu := hr.units
  exact (ss_cons (s_if (PW.pt (w_or (t_not (t_tru (bd (e_inst kit_tup p.b_isinstance p.b_tuple Wv.bt_tuple (bd (e_var 1)))))) (w_or (t_cmp (opNe hu) o_ne (bd (e_callB callLen o_len p.b_len Wv.bt_len (a_b (bd (e_var 1)) a_nil))) (bd e_int) (nomark _)) (w_or1 (t_not (t_tru (bd (e_inst kit_str p.b_isinstance p.b_str Wv.bt_str (bd (e_ix ixAll o_ix (bd (e_var 1)) (bd e_int)))))))))))
    (ss_one (s_ret e_bl))
    ss_nil)
    (ss_cons (s_if (t_cmp (opEq hu) o_eq (bd (e_ix ixAll o_ix (bd (e_var 1)) (bd e_int))) (bd e_str) (nomark _))
    (ss_one (s_ret (e_call G_is_number_below (hr.mono (by decide)) D_is_number_below.m D_is_number_below.F.kp D_is_number_below.b (pass1 fun _ _ h => h) (a_d (e_ix ixAll o_ix (bd (e_var 1)) (bd e_int)) (a_d (e_callB callLen o_len p.b_len Wv.bt_len (a_b (bd (e_ix ixAll o_ix (bd (e_var 0)) (bd e_int))) a_nil)) a_nil)) (n_cons (n_cons (n_nil))))))
    ss_nil)
    (ss_one (s_ret (e_and (e_cmp (opEq hu) o_eq (bd (e_ix ixAll o_ix (bd (e_var 1)) (bd e_int))) (bd e_str) (nomark _)) (e_one (e_call G_is_number_below (hr.mono (by decide)) D_is_number_below.m D_is_number_below.F.kp D_is_number_below.b (pass1 fun _ _ h => h) (a_d (e_ix ixAll o_ix (bd (e_var 1)) (bd e_int)) (a_d (e_callB callLen o_len p.b_len Wv.bt_len (a_b (bd (e_var 0)) a_nil)) a_nil)) (n_cons (n_cons (n_nil))))))))))
def mb_checked_thread : Ev → R Fl := (sSeq (sIf (mTn (mTru (mFn m_is_thread (mCons (mV 0) (mCons (mV 1) mNil)))))
  (sRse "NoThread" (mCons (mC (.str "this is no thread of the cloth")) mNil))
  sNil)
  (sRet (mV 1)))
def m_checked_thread : List D → R D := runB 2 mb_checked_thread
theorem sc_checked_thread : FnScope ["cloth", "thing"] ["cloth", "thing"] (defScope s_checked_thread) := ⟨rfl, rfl, rfl, by decide +kernel, rfl, by decide +kernel, by decide +kernel⟩
set_option maxHeartbeats 4000000 in
theorem fn_checked_thread (p : Pr K mg w aNoThread) {f : Addr} {fd : FuncData} (D : DefOk K mg "checked_thread" s_checked_thread ["cloth", "thing"] f fd) : FnOk P w K mg base (CX1 P w) 3 f fd ["cloth", "thing"] (spD K mg w 2 m_checked_thread) := by
  obtain ⟨f_is_thread, fd_is_thread, D_is_thread⟩ := p.d_is_thread
  have G_is_thread := fn_is_thread (P := P) (w := w) (base := base) p D_is_thread
  refine fnD (ow := [false, false]) (k := 2) D.F sc_checked_thread rfl fun cdv A outer s H E hr => ?_
  have hu := hr.units
  exact (ss_cons (s_if (t_not (t_tru (bd (e_call G_is_thread (hr.mono (by decide)) D_is_thread.m D_is_thread.F.kp D_is_thread.b (pass1 fun _ _ h => h) (a_d (e_var 0) (a_d (e_var 1) a_nil)) (n_cons (n_cons (n_nil)))))))
    (ss_one (s_raise p.x_NoThread p.k_NoThread p.k_NoThread (a_d e_str a_nil) raise_wish))
    ss_nil)
    (ss_one (s_ret (e_var 1))))
def mb_above : Ev → R Fl := (sSeq (sIf (mTst (m2 (m2 (mV 1) (mC (.int 0)) ixD) (mC (.str "warp")) eqD))
  (sRet (m2 (m2 (m2 (mV 0) (m2 (mV 2) (mC (.int 1)) ixD) ixD) (m2 (mV 1) (mC (.int 1)) ixD) ixD) (mC (.int 1)) eqD))
  sNil)
  (sRet (m2 (m2 (m2 (mV 0) (m2 (mV 1) (mC (.int 1)) ixD) ixD) (m2 (mV 2) (mC (.int 1)) ixD) ixD) (mC (.int 0)) eqD)))
def m_above : List D → R D := runB 3 mb_above
theorem sc_above : FnScope ["cloth", "one", "other"] ["cloth", "one", "other"] (defScope s_above) := ⟨rfl, rfl, rfl, by decide +kernel, rfl, by decide +kernel, by decide +kernel⟩
set_option maxHeartbeats 4000000 in
theorem fn_above (p : Pr K mg w aNoThread) {f : Addr} {fd : FuncData} (D : DefOk K mg "above" s_above ["cloth", "one", "other"] f fd) : FnOk P w K mg base (CX1 P w) 1 f fd ["cloth", "one", "other"] (spD K mg w 3 m_above) := by
  refine fnD (ow := [false, false, false]) (k := 0) D.F sc_above rfl fun cdv A outer s H E hr => ?_
  have hu := hr.units
  exact (ss_cons (s_if (t_cmp (opEq hu) o_eq (bd (e_ix ixAll o_ix (bd (e_var 1)) (bd e_int))) (bd e_str) (nomark _))
    (ss_one (s_ret (e_cmp (opEq hu) o_eq (bd (e_ix ixAll o_ix (bd (e_ix ixAll o_ix (bd (e_var 0)) (bd (e_ix ixAll o_ix (bd (e_var 2)) (bd e_int))))) (bd (e_ix ixAll o_ix (bd (e_var 1)) (bd e_int))))) (bd e_int) (nomark _))))
    ss_nil)
    (ss_one (s_ret (e_cmp (opEq hu) o_eq (bd (e_ix ixAll o_ix (bd (e_ix ixAll o_ix (bd (e_var 0)) (bd (e_ix ixAll o_ix (bd (e_var 1)) (bd e_int))))) (bd (e_ix ixAll o_ix (bd (e_var 2)) (bd e_int))))) (bd e_int) (nomark _)))))
def mb_lying_above : Ev → R Fl := (sRet (mLc (mItems (mFn m_threads (mCons (mV 0) mNil))) [none, some 0, some 1] (gN 0) (mTand (mTst (m2 (m2 (mV 0) (mC (.int 0)) ixD) (m2 (mV 2) (mC (.int 0)) ixD) neD)) (mTru (mFn m_above (mCons (mV 1) (mCons (mV 0) (mCons (mV 2) mNil)))))) (mV 0)))
def m_lying_above : List D → R D := runB 2 mb_lying_above
theorem sc_lying_above : FnScope ["cloth", "thread"] ["cloth", "thread"] (defScope s_lying_above) := ⟨rfl, rfl, rfl, by decide +kernel, rfl, by decide +kernel, by decide +kernel⟩
set_option maxHeartbeats 4000000 in
theorem fn_lying_above (p : Pr K mg w aNoThread) {f : Addr} {fd : FuncData} (D : DefOk K mg "lying_above" s_lying_above ["cloth", "thread"] f fd) : FnOk P w K mg base (CX1 P w) 2 f fd ["cloth", "thread"] (spD K mg w 2 m_lying_above) := by
  obtain ⟨f_threads, fd_threads, D_threads⟩ := p.d_threads
  have G_threads := fn_threads (P := P) (w := w) (base := base) p D_threads
  obtain ⟨f_above, fd_above, D_above⟩ := p.d_above
  have G_above := fn_above (P := P) (w := w) (base := base) p D_above
  refine fnD (ow := [false, false]) (k := 1) D.F sc_lying_above rfl fun cdv A outer s H E hr => ?_
  have hu := hr.units
  exact (ss_one (s_ret (f2d (e_lc (N' := ["other", "cloth", "thread"]) (src := [none, some 0, some 1]) (LcOk.of ["cloth", "thread"] (defScope s_lying_above) rfl rfl (by decide +kernel)) (i_seq (e_call G_threads (hr.mono (by decide)) D_threads.m D_threads.F.kp D_threads.b (pass1 fun _ _ h => h) (a_d (e_var 0) a_nil) (n_cons (n_nil)))) (fun _ _ _ _ => (g_name (i := 0) (show (["other", "cloth", "thread"] : List Str).Nodup by decide +kernel))) (fun _ _ _ _ => ptl_one (PW.pt (w_and (t_cmp (opNe hu) o_ne (bd (e_ix ixAll o_ix (bd (e_var 0)) (bd e_int))) (bd (e_ix ixAll o_ix (bd (e_var 2)) (bd e_int))) (nomark _)) (w_and1 (t_tru (bd (e_call G_above (hr.mono (by decide)) D_above.m D_above.F.kp D_above.b passE0 (a_d (e_var 1) (a_d (e_var 0) (a_d (e_var 2) a_nil))) (n_cons (n_cons (n_cons (n_nil))))))))))) (fun _ _ _ _ => (e_var 0)) sub_N src_ok))))
def mb_lifts_with : Ev → R Fl := (sSeq (sExpr (mFn m_checked_thread (mCons (mV 0) (mCons (mV 1) mNil))))
  (sSeq (sSet 2 (mDct1 (mV 1) (mC (.bl true))))
  (sSeq (sSet 3 (mLst (mCons (mV 1) mNil)))
  (sSeq (whileD (mTst (m2 (mV 3) (mLst mNil) neD))
  (sSeq (sPop 4 3)
  (sFor (mItems (mFn m_lying_above (mCons (mV 0) (mCons (mV 4) mNil)))) (gN 5)
  (sIf (mTst (m2 (mV 5) (mV 2) (inK true)))
  (sSeq (sPut 2 (mV 5) (mC (.bl true)))
  (sApp 3 (mV 5)))
  sNil))) 1000)
  (sRet (mLc (mItems (mFn m_threads (mCons (mV 0) mNil))) [none, some 2] (gN 0) (mTst (m2 (mV 0) (mV 1) (inK false))) (mV 0)))))))
def m_lifts_with : List D → R D := runB 6 mb_lifts_with
theorem sc_lifts_with : FnScope ["cloth", "thread", "lifted", "waiting", "one", "over"] ["cloth", "thread"] (defScope s_lifts_with) := ⟨rfl, rfl, rfl, by decide +kernel, rfl, by decide +kernel, by decide +kernel⟩
set_option maxHeartbeats 4000000 in
theorem fn_lifts_with (p : Pr K mg w aNoThread) {f : Addr} {fd : FuncData} (D : DefOk K mg "lifts_with" s_lifts_with ["cloth", "thread"] f fd) : FnOk P w K mg base (CX1 P w) 4 f fd ["cloth", "thread"] (spD K mg w 2 m_lifts_with) := by
  obtain ⟨f_checked_thread, fd_checked_thread, D_checked_thread⟩ := p.d_checked_thread
  have G_checked_thread := fn_checked_thread (P := P) (w := w) (base := base) p D_checked_thread
  obtain ⟨f_lying_above, fd_lying_above, D_lying_above⟩ := p.d_lying_above
  have G_lying_above := fn_lying_above (P := P) (w := w) (base := base) p D_lying_above
  obtain ⟨f_threads, fd_threads, D_threads⟩ := p.d_threads
  have G_threads := fn_threads (P := P) (w := w) (base := base) p D_threads
  refine fnD (ow := [false, false, true, true, false, false]) (k := 3) D.F sc_lifts_with rfl fun cdv A outer s H E hr => ?_
  have hu := hr.units
  exact (ss_cons (s_expr (e_call G_checked_thread (hr.mono (by decide)) D_checked_thread.m D_checked_thread.F.kp D_checked_thread.b (pass1 fun _ _ h => h) (a_d (e_var 0) (a_d (e_var 1) a_nil)) (n_cons (n_cons (n_nil)))))
    (ss_cons (s_setF (i := 2) sc_lifts_with.nd (e_dct1 hu (e_var 1) e_bl))
    (ss_cons (s_setF (i := 3) sc_lifts_with.nd (e_lst (a_d (e_var 1) a_nil)))
    (ss_cons (s_while 1000 PassesOwn.leaving (t_cmp (opNe hu) o_ne (b_var 3) (bf (e_lst a_nil)) (nomark _))
    (ss_cons (s_pop (i := 3) (j := 4) sc_lifts_with.nd)
    (ss_one (s_for PassesOwn.leaving (i_seq (e_call G_lying_above (hr.mono (by decide)) D_lying_above.m D_lying_above.F.kp D_lying_above.b (pass1 fun _ _ h => h) (a_d (e_var 0) (a_d (e_var 4) a_nil)) (n_cons (n_cons (n_nil))))) (g_name (i := 5) sc_lifts_with.nd)
    (ss_one (s_if (t_cmp (opNotInX hu) o_inK (bd (e_var 5)) (b_var 2) (by with_unfolding_all rfl))
    (ss_cons (s_put (i := 2) hu e_bl (e_var 5))
    (ss_one (s_app (i := 3) (e_var 5))))
    ss_nil))))))
    (ss_one (s_ret (f2d (e_lc (N' := ["other", "lifted"]) (src := [none, some 2]) (LcOk.of ["cloth", "thread", "lifted", "waiting", "one", "over"] (defScope s_lifts_with) rfl rfl (by decide +kernel)) (i_seq (e_call G_threads (hr.mono (by decide)) D_threads.m D_threads.F.kp D_threads.b (pass1 fun _ _ h => h) (a_d (e_var 0) a_nil) (n_cons (n_nil)))) (fun _ _ _ _ => (g_name (i := 0) (show (["other", "lifted"] : List Str).Nodup by decide +kernel))) (fun _ _ _ _ => ptl_one (t_cmp (opInX hu) o_inK (bd (e_var 0)) (b_var 1) (by with_unfolding_all rfl))) (fun _ _ _ _ => (e_var 0)) sub_N src_ok))))))))
def mb_layers : Ev → R Fl := (mLayers (mItems (mFn m_threads (mCons (mV 0) mNil)))
  (mFn tupleD (mCons (mFn m_lifts_with (mCons (mV 0) (mCons (mV 2) mNil))) mNil))
  (mLc (mItems (mFn sortedLen (mCons (mFn keysD (mCons (mV 1) mNil)) mNil))) [none, some 1] (gN 0) mYes (m2 (mV 1) (mV 0) ixK)))
def m_layers : List D → R D := runB 4 mb_layers
theorem sc_layers : FnScope ["cloth", "together", "thread", "lifted"] ["cloth"] (defScope s_layers) := ⟨rfl, rfl, rfl, by decide +kernel, rfl, by decide +kernel, by decide +kernel⟩
set_option maxHeartbeats 4000000 in
theorem fn_layers (p : Pr K mg w aNoThread) {f : Addr} {fd : FuncData} (D : DefOk K mg "layers" s_layers ["cloth"] f fd) : FnOk P w K mg base (CX1 P w) 5 f fd ["cloth"] (spD K mg w 1 m_layers) := by
  obtain ⟨f_threads, fd_threads, D_threads⟩ := p.d_threads
  have G_threads := fn_threads (P := P) (w := w) (base := base) p D_threads
  obtain ⟨f_lifts_with, fd_lifts_with, D_lifts_with⟩ := p.d_lifts_with
  have G_lifts_with := fn_lifts_with (P := P) (w := w) (base := base) p D_lifts_with
  refine fnD (ow := []) (k := 4) D.F sc_layers rfl fun cdv A outer s H E hr => ?_
  have hu := hr.units
  exact (ss_layers (ps_set (i := 1) sc_layers.nd rfl (by first | exact Or.inl rfl | exact Or.inr rfl) pe_dnewX) PassesOwn.leaving (i_seq (e_call G_threads (hr.mono (by decide)) D_threads.m D_threads.F.kp D_threads.b (pass1 fun _ _ h => h) (a_d (e_var 0) a_nil) (n_cons (n_nil)))) (pg_name (i := 2) sc_layers.nd rfl (by first | exact Or.inl rfl | exact Or.inr rfl))
    (pss_cons (ps_set (i := 3) sc_layers.nd rfl (by first | exact Or.inl rfl | exact Or.inr rfl) (e_callTy callTuple o_tuple p.b_tuple Wv.bt_tuple (a_b (bd (e_call G_lifts_with (hr.mono (by decide)) D_lifts_with.m D_lifts_with.F.kp D_lifts_with.b (pass1 fun _ _ h => h) (a_d (e_var 0) (a_d (e_var 2) a_nil)) (n_cons (n_cons (n_nil))))) a_nil)))
    (pss_cons (ps_if (pt_cmpR (opNotInX hu) (pe_var (i := 3) rfl (by first | exact Or.inl rfl | exact Or.inr (Or.inl rfl) | exact Or.inr (Or.inr rfl))) (pe_var (i := 1) rfl (by first | exact Or.inl rfl | exact Or.inr (Or.inl rfl) | exact Or.inr (Or.inr rfl))) (by with_unfolding_all rfl)) (pss_one (ps_asg (pe_lst pa_nil) (pg_sub (pe_var (i := 1) rfl (by first | exact Or.inl rfl | exact Or.inr (Or.inl rfl) | exact Or.inr (Or.inr rfl))) (pe_var (i := 3) rfl (by first | exact Or.inl rfl | exact Or.inr (Or.inl rfl) | exact Or.inr (Or.inr rfl))) (pset_dict hu)))) pss_nil)
    (pss_one (ps_expr (pe_bm PySem.F.plainAttrs_list PySem.F.slot_list_append PySem.F.type_list_append mt_append (pe_ix (ixDict hu) (pe_var (i := 1) rfl (by first | exact Or.inl rfl | exact Or.inr (Or.inl rfl) | exact Or.inr (Or.inr rfl))) (pe_var (i := 3) rfl (by first | exact Or.inl rfl | exact Or.inr (Or.inl rfl) | exact Or.inr (Or.inr rfl))) (fun _ _ => rfl)) (pa_cons (pe_var (i := 2) rfl (by first | exact Or.inl rfl | exact Or.inr (Or.inl rfl) | exact Or.inr (Or.inr rfl))) pa_nil))))))
    (f2d (e_lc (N' := ["lifting", "together"]) (src := [none, some 1]) (LcOk.of ["cloth", "together", "thread", "lifted"] (defScope s_layers) rfl rfl (by decide +kernel)) (i_seq (f2d (e_sortLen p.b_sorted p.b_len (a_b (bf (e_callTy callListX o_keys p.b_list Wv.bt_list (a_b (bd (e_var 1)) a_nil))) a_nil)))) (fun _ _ _ _ => (g_name (i := 0) (show (["lifting", "together"] : List Str).Nodup by decide +kernel))) (fun _ _ _ _ => ptl_yes) (fun _ _ _ _ => (e_ix (ixDict hu) o_ixK (bd (e_var 1)) (bd (e_var 0)))) sub_N src_ok)))
def mb_a_lift : Ev → R Fl := (sSeq (sSet 1 (mFn m_layers (mCons (mV 0) mNil)))
  (sSeq (sIf (mTst (m2 (mFn lenD (mCons (mV 1) mNil)) (mC (.int 1)) eqD))
  (sRet (mC .non))
  sNil)
  (sRet (m2 (mV 1) (mC (.int 0)) ixD))))
def m_a_lift : List D → R D := runB 2 mb_a_lift
theorem sc_a_lift : FnScope ["cloth", "found"] ["cloth"] (defScope s_a_lift) := ⟨rfl, rfl, rfl, by decide +kernel, rfl, by decide +kernel, by decide +kernel⟩
set_option maxHeartbeats 4000000 in
theorem fn_a_lift (p : Pr K mg w aNoThread) {f : Addr} {fd : FuncData} (D : DefOk K mg "a_lift" s_a_lift ["cloth"] f fd) : FnOk P w K mg base (CX1 P w) 6 f fd ["cloth"] (spD K mg w 1 m_a_lift) := by
  obtain ⟨f_layers, fd_layers, D_layers⟩ := p.d_layers
  have G_layers := fn_layers (P := P) (w := w) (base := base) p D_layers
  refine fnD (ow := [false, false]) (k := 5) D.F sc_a_lift rfl fun cdv A outer s H E hr => ?_
  have hu := hr.units
  exact (ss_cons (s_set (i := 1) sc_a_lift.nd (e_call G_layers (hr.mono (by decide)) D_layers.m D_layers.F.kp D_layers.b (pass1 fun _ _ h => h) (a_d (e_var 0) a_nil) (n_cons (n_nil))))
    (ss_cons (s_if (t_cmp (opEq hu) o_eq (bd (e_callB callLen o_len p.b_len Wv.bt_len (a_b (bd (e_var 1)) a_nil))) (bd e_int) (nomark _))
    (ss_one (s_ret e_non))
    ss_nil)
    (ss_one (s_ret (e_ix ixAll o_ix (bd (e_var 1)) (bd e_int))))))
def mb_crossings_of : Ev → R Fl := (sSeq (sIf (mTst (m2 (m2 (mV 1) (mC (.int 0)) ixD) (mC (.str "warp")) eqD))
  (sRet (mLc (mIt (mCons (mV 0) mNil) enumerateD) [none, none, some 1] (gT2 0 1) mYes (mTup (mCons (mTup (mCons (mC (.str "weft")) (mCons (mV 0) mNil))) (mCons (m2 (mV 1) (m2 (mV 2) (mC (.int 1)) ixD) ixD) mNil)))))
  sNil)
  (sRet (mLc (mIt (mCons (m2 (mV 0) (m2 (mV 1) (mC (.int 1)) ixD) ixD) mNil) enumerateD) [none, none] (gT2 0 1) mYes (mTup (mCons (mTup (mCons (mC (.str "warp")) (mCons (mV 0) mNil))) (mCons (mV 1) mNil))))))
def m_crossings_of : List D → R D := runB 2 mb_crossings_of
theorem sc_crossings_of : FnScope ["picture", "thread"] ["picture", "thread"] (defScope s_crossings_of) := ⟨rfl, rfl, rfl, by decide +kernel, rfl, by decide +kernel, by decide +kernel⟩
set_option maxHeartbeats 4000000 in
theorem fn_crossings_of (p : Pr K mg w aNoThread) {f : Addr} {fd : FuncData} (D : DefOk K mg "crossings_of" s_crossings_of ["picture", "thread"] f fd) : FnOk P w K mg base (CX1 P w) 1 f fd ["picture", "thread"] (spD K mg w 2 m_crossings_of) := by
  refine fnD (ow := [false, false]) (k := 0) D.F sc_crossings_of rfl fun cdv A outer s H E hr => ?_
  have hu := hr.units
  exact (ss_cons (s_if (t_cmp (opEq hu) o_eq (bd (e_ix ixAll o_ix (bd (e_var 1)) (bd e_int))) (bd e_str) (nomark _))
    (ss_one (s_ret (f2d (e_lc (N' := ["number", "row", "thread"]) (src := [none, none, some 1]) (LcOk.of ["picture", "thread"] (defScope s_crossings_of) rfl rfl (by decide +kernel)) (i_enumerate p.b_enumerate (a_d (e_var 0) a_nil)) (fun _ _ _ _ => (g_tup2 (i := 0) (j := 1) rfl (show (["number", "row", "thread"] : List Str).Nodup by decide +kernel))) (fun _ _ _ _ => ptl_yes) (fun _ _ _ _ => (e_tup (a_d (e_tup (a_d e_str (a_d (e_var 0) a_nil))) (a_d (e_ix ixAll o_ix (bd (e_var 1)) (bd (e_ix ixAll o_ix (bd (e_var 2)) (bd e_int)))) a_nil)))) sub_T2 src_ok))))
    ss_nil)
    (ss_one (s_ret (f2d (e_lc (N' := ["number", "colour"]) (src := [none, none]) (LcOk.of ["picture", "thread"] (defScope s_crossings_of) rfl rfl (by decide +kernel)) (i_enumerate p.b_enumerate (a_d (e_ix ixAll o_ix (bd (e_var 0)) (bd (e_ix ixAll o_ix (bd (e_var 1)) (bd e_int)))) a_nil)) (fun _ _ _ _ => (g_tup2 (i := 0) (j := 1) rfl (show (["number", "colour"] : List Str).Nodup by decide +kernel))) (fun _ _ _ _ => ptl_yes) (fun _ _ _ _ => (e_tup (a_d (e_tup (a_d e_str (a_d (e_var 0) a_nil))) (a_d (e_var 1) a_nil)))) sub_T2 src_ok)))))
def mb_led_to : Ev → R Fl := (sRet (mLc (mItems (mFn m_crossings_of (mCons (mV 0) (mCons (m2 (mV 1) (mC (.int 0)) ixD) mNil)))) [none, some 1] (gN 0) (mTst (m2 (m2 (mV 0) (mC (.int 1)) ixD) (m2 (mV 1) (mC (.int 1)) ixD) neD)) (mV 0)))
def m_led_to : List D → R D := runB 2 mb_led_to
theorem sc_led_to : FnScope ["picture", "step"] ["picture", "step"] (defScope s_led_to) := ⟨rfl, rfl, rfl, by decide +kernel, rfl, by decide +kernel, by decide +kernel⟩
set_option maxHeartbeats 4000000 in
theorem fn_led_to (p : Pr K mg w aNoThread) {f : Addr} {fd : FuncData} (D : DefOk K mg "led_to" s_led_to ["picture", "step"] f fd) : FnOk P w K mg base (CX1 P w) 2 f fd ["picture", "step"] (spD K mg w 2 m_led_to) := by
  obtain ⟨f_crossings_of, fd_crossings_of, D_crossings_of⟩ := p.d_crossings_of
  have G_crossings_of := fn_crossings_of (P := P) (w := w) (base := base) p D_crossings_of
  refine fnD (ow := [false, false]) (k := 1) D.F sc_led_to rfl fun cdv A outer s H E hr => ?_
  have hu := hr.units
  exact (ss_one (s_ret (f2d (e_lc (N' := ["other", "step"]) (src := [none, some 1]) (LcOk.of ["picture", "step"] (defScope s_led_to) rfl rfl (by decide +kernel)) (i_seq (e_call G_crossings_of (hr.mono (by decide)) D_crossings_of.m D_crossings_of.F.kp D_crossings_of.b (pass1 fun _ _ h => h) (a_d (e_var 0) (a_d (e_ix ixAll o_ix (bd (e_var 1)) (bd e_int)) a_nil)) (n_cons (n_cons (n_nil))))) (fun _ _ _ _ => (g_name (i := 0) (show (["other", "step"] : List Str).Nodup by decide +kernel))) (fun _ _ _ _ => ptl_one (t_cmp (opNe hu) o_ne (bd (e_ix ixAll o_ix (bd (e_var 0)) (bd e_int))) (bd (e_ix ixAll o_ix (bd (e_var 1)) (bd e_int))) (nomark _))) (fun _ _ _ _ => (e_var 0)) sub_N src_ok))))
def mb_ways_from : Ev → R Fl := (sSeq (sSet 2 (mDct1 (mV 1) (mLst (mCons (mV 1) mNil))))
  (sSeq (sSet 3 (mLst (mCons (mV 1) mNil)))
  (sSeq (whileD (mTst (m2 (mV 3) (mLst mNil) neD))
  (sSeq (sPop0 4 3)
  (sFor (mItems (mFn m_led_to (mCons (mV 0) (mCons (mV 4) mNil)))) (gN 5)
  (sIf (mTst (m2 (mV 5) (mV 2) (inK true)))
  (sSeq (sPut 2 (mV 5) (m2 (m2 (mV 2) (mV 4) ixK) (mLst (mCons (mV 5) mNil)) addD))
  (sApp 3 (mV 5)))
  sNil))) 1000)
  (sRet (mV 2)))))
def m_ways_from : List D → R D := runB 6 mb_ways_from
theorem sc_ways_from : FnScope ["picture", "first", "ways", "waiting", "step", "after"] ["picture", "first"] (defScope s_ways_from) := ⟨rfl, rfl, rfl, by decide +kernel, rfl, by decide +kernel, by decide +kernel⟩
set_option maxHeartbeats 4000000 in
theorem fn_ways_from (p : Pr K mg w aNoThread) {f : Addr} {fd : FuncData} (D : DefOk K mg "ways_from" s_ways_from ["picture", "first"] f fd) : FnOk P w K mg base (CX1 P w) 3 f fd ["picture", "first"] (spD K mg w 2 m_ways_from) := by
  obtain ⟨f_led_to, fd_led_to, D_led_to⟩ := p.d_led_to
  have G_led_to := fn_led_to (P := P) (w := w) (base := base) p D_led_to
  refine fnD (ow := [false, false, true, true, false, false]) (k := 2) D.F sc_ways_from rfl fun cdv A outer s H E hr => ?_
  have hu := hr.units
  exact (ss_cons (s_setF (i := 2) sc_ways_from.nd (e_dct1 hu (e_var 1) (f2d (e_lst (a_d (e_var 1) a_nil)))))
    (ss_cons (s_setF (i := 3) sc_ways_from.nd (e_lst (a_d (e_var 1) a_nil)))
    (ss_cons (s_while 1000 PassesOwn.leaving (t_cmp (opNe hu) o_ne (b_var 3) (bf (e_lst a_nil)) (nomark _))
    (ss_cons (s_pop0 (i := 3) (j := 4) sc_ways_from.nd)
    (ss_one (s_for PassesOwn.leaving (i_seq (e_call G_led_to (hr.mono (by decide)) D_led_to.m D_led_to.F.kp D_led_to.b (pass1 fun _ _ h => h) (a_d (e_var 0) (a_d (e_var 4) a_nil)) (n_cons (n_cons (n_nil))))) (g_name (i := 5) sc_ways_from.nd)
    (ss_one (s_if (t_cmp (opNotInX hu) o_inK (bd (e_var 5)) (b_var 2) (by with_unfolding_all rfl))
    (ss_cons (s_put (i := 2) hu (e_op op_addAll o_add (bd (e_ix (ixDict hu) o_ixK (b_var 2) (bd (e_var 4)))) (bf (e_lst (a_d (e_var 5) a_nil)))) (e_var 5))
    (ss_one (s_app (i := 3) (e_var 5))))
    ss_nil))))))
    (ss_one (s_retV 2)))))
def mb_clash : Ev → R Fl := (sSeq (sSet 1 (mC (.dct [] [])))
  (sSeq (sFor (mItems (mFn keysD (mCons (mV 0) mNil))) (gN 2)
  (sSeq (sIf (mTst (m2 (m2 (mV 2) (mC (.int 0)) ixD) (mV 1) (inK false)))
  (sRet (mTup (mCons (m2 (mV 0) (m2 (mV 1) (m2 (mV 2) (mC (.int 0)) ixD) ixK) ixK) (mCons (m2 (mV 0) (mV 2) ixK) mNil))))
  sNil)
  (sPut 1 (m2 (mV 2) (mC (.int 0)) ixD) (mV 2))))
  (sRet (mC .non))))
def m_clash : List D → R D := runB 3 mb_clash
theorem sc_clash : FnScope ["ways", "reached", "step"] ["ways"] (defScope s_clash) := ⟨rfl, rfl, rfl, by decide +kernel, rfl, by decide +kernel, by decide +kernel⟩
set_option maxHeartbeats 4000000 in
theorem fn_clash (p : Pr K mg w aNoThread) {f : Addr} {fd : FuncData} (D : DefOk K mg "clash" s_clash ["ways"] f fd) : FnOk P w K mg base (CX1 P w) 1 f fd ["ways"] (spD K mg w 1 m_clash) := by
  refine fnD (ow := [false, true, false]) (k := 0) D.F sc_clash rfl fun cdv A outer s H E hr => ?_
  have hu := hr.units
  exact (ss_cons (s_setF (i := 1) sc_clash.nd e_dct0)
    (ss_cons (s_for PassesOwn.leaving (i_seq (f2d (e_callTy callListX o_keys p.b_list Wv.bt_list (a_b (bd (e_var 0)) a_nil)))) (g_name (i := 2) sc_clash.nd)
    (ss_cons (s_if (t_cmp (opInX hu) o_inK (bd (e_ix ixAll o_ix (bd (e_var 2)) (bd e_int))) (b_var 1) (by with_unfolding_all rfl))
    (ss_one (s_ret (e_tup (a_d (e_ix (ixDict hu) o_ixK (bd (e_var 0)) (bd (e_ix (ixDict hu) o_ixK (b_var 1) (bd (e_ix ixAll o_ix (bd (e_var 2)) (bd e_int)))))) (a_d (e_ix (ixDict hu) o_ixK (bd (e_var 0)) (bd (e_var 2))) a_nil)))))
    ss_nil)
    (ss_one (s_put (i := 1) hu (e_var 2) (e_ix ixAll o_ix (bd (e_var 2)) (bd e_int))))))
    (ss_one (s_ret e_non))))
def mb_colours_for : Ev → R Fl := (sSeq (sSet 1 (mC (.dct [] [])))
  (sSeq (sFor (mItems (mFn m_threads (mCons (mV 0) mNil))) (gN 2)
  (sIf (mTst (m2 (mV 2) (mV 1) (inK true)))
  (sSeq (sSet 3 (mLc (mItems (mC (.tup [.int 0, .int 1, .int 2]))) [none, some 0, some 2] (gN 0) mYes (mFn m_ways_from (mCons (mV 1) (mCons (mTup (mCons (mV 2) (mCons (mV 0) mNil))) mNil)))))
  (sSeq (sSet 4 (mLc (mItems (mV 3)) [none] (gN 0) (mTst (m2 (mFn m_clash (mCons (mV 0) mNil)) (mC .non) isND)) (mV 0)))
  (sSeq (sIf (mTst (m2 (mV 4) (mLst mNil) eqNil))
  (sRet (mTup (mCons (mC (.str "knot")) (mCons (mLc (mItems (mV 3)) [none] (gN 0) mYes (mFn m_clash (mCons (mV 0) mNil))) mNil))))
  sNil)
  (sFor (mItems (mFn keysD (mCons (m2 (mV 4) (mC (.int 0)) ixD) mNil))) (gN 5)
  (sPut 1 (m2 (mV 5) (mC (.int 0)) ixD) (m2 (mV 5) (mC (.int 1)) ixD))))))
  sNil))
  (sSeq (sSet 6 (mLc (mIt (mCons (mFn lenD (mCons (m2 (mV 0) (mC (.int 0)) ixD) mNil)) mNil) ran1) [none, some 1] (gN 0) mYes (m2 (mV 1) (mTup (mCons (mC (.str "warp")) (mCons (mV 0) mNil))) ixK)))
  (sSeq (sSet 7 (mLc (mIt (mCons (mFn lenD (mCons (mV 0) mNil)) mNil) ran1) [none, some 1] (gN 0) mYes (m2 (mV 1) (mTup (mCons (mC (.str "weft")) (mCons (mV 0) mNil))) ixK)))
  (sRet (mTup (mCons (mC (.str "colours")) (mCons (mV 6) (mCons (mV 7) mNil)))))))))
def m_colours_for : List D → R D := runB 8 mb_colours_for
theorem sc_colours_for : FnScope ["picture", "given", "thread", "tries", "good", "step", "warps", "wefts"] ["picture"] (defScope s_colours_for) := ⟨rfl, rfl, rfl, by decide +kernel, rfl, by decide +kernel, by decide +kernel⟩
set_option maxHeartbeats 4000000 in
theorem fn_colours_for (p : Pr K mg w aNoThread) {f : Addr} {fd : FuncData} (D : DefOk K mg "colours_for" s_colours_for ["picture"] f fd) : FnOk P w K mg base (CX1 P w) 4 f fd ["picture"] (spD K mg w 1 m_colours_for) := by
  obtain ⟨f_threads, fd_threads, D_threads⟩ := p.d_threads
  have G_threads := fn_threads (P := P) (w := w) (base := base) p D_threads
  obtain ⟨f_ways_from, fd_ways_from, D_ways_from⟩ := p.d_ways_from
  have G_ways_from := fn_ways_from (P := P) (w := w) (base := base) p D_ways_from
  obtain ⟨f_clash, fd_clash, D_clash⟩ := p.d_clash
  have G_clash := fn_clash (P := P) (w := w) (base := base) p D_clash
  obtain ⟨t_COLOURS, h_COLOURS, hd_COLOURS⟩ := p.c_COLOURS
  refine fnD (ow := [false, true, false, false, false, false, false, false]) (k := 3) D.F sc_colours_for rfl fun cdv A outer s H E hr => ?_
  have hu := hr.units
  exact (ss_cons (s_setF (i := 1) sc_colours_for.nd e_dct0)
    (ss_cons (s_for PassesOwn.leaving (i_seq (e_call G_threads (hr.mono (by decide)) D_threads.m D_threads.F.kp D_threads.b (pass1 fun _ _ h => h) (a_d (e_var 0) a_nil) (n_cons (n_nil)))) (g_name (i := 2) sc_colours_for.nd)
    (ss_one (s_if (t_cmp (opNotInX hu) o_inK (bd (e_var 2)) (b_var 1) (by with_unfolding_all rfl))
    (ss_cons (s_setLc (i := 3) sc_colours_for.nd (N' := ["colour", "picture", "thread"]) (src := [none, some 0, some 2]) (LcOk.of ["picture", "given", "thread", "tries", "good", "step", "warps", "wefts"] (defScope s_colours_for) rfl rfl (by decide +kernel)) (i_seq (e_gtup h_COLOURS hd_COLOURS)) (fun _ _ _ _ => (g_name (i := 0) (show (["colour", "picture", "thread"] : List Str).Nodup by decide +kernel))) (fun _ _ _ _ => ptl_yes) (fun _ _ _ _ => (e_call G_ways_from (hr.mono (by decide)) D_ways_from.m D_ways_from.F.kp D_ways_from.b passE0 (a_d (e_var 1) (a_d (e_tup (a_d (e_var 2) (a_d (e_var 0) a_nil))) a_nil)) (n_cons (n_cons (n_nil))))) sub_N src_ok)
    (ss_cons (s_setLc (i := 4) sc_colours_for.nd (N' := ["ways"]) (src := [none]) (LcOk.of ["picture", "given", "thread", "tries", "good", "step", "warps", "wefts"] (defScope s_colours_for) rfl rfl (by decide +kernel)) (i_seq (e_var 3)) (fun _ _ _ _ => (g_name (i := 0) (show (["ways"] : List Str).Nodup by decide +kernel))) (fun _ _ _ _ => ptl_one (t_cmp op_isN o_isN (bd (e_call G_clash (hr.mono (by decide)) D_clash.m D_clash.F.kp D_clash.b passE0 (a_d (e_var 0) a_nil) (n_cons (n_nil)))) (bd e_non) (nomark _))) (fun _ _ _ _ => (e_var 0)) sub_N src_ok)
    (ss_cons (s_if (t_cmp (opEqNil hu) o_eqNil (bd (e_var 4)) (bf (e_lst a_nil)) (nomark _))
    (ss_one (s_ret (e_tup (a_d e_str (a_d (f2d (e_lc (N' := ["ways"]) (src := [none]) (LcOk.of ["picture", "given", "thread", "tries", "good", "step", "warps", "wefts"] (defScope s_colours_for) rfl rfl (by decide +kernel)) (i_seq (e_var 3)) (fun _ _ _ _ => (g_name (i := 0) (show (["ways"] : List Str).Nodup by decide +kernel))) (fun _ _ _ _ => ptl_yes) (fun _ _ _ _ => (e_call G_clash (hr.mono (by decide)) D_clash.m D_clash.F.kp D_clash.b passE0 (a_d (e_var 0) a_nil) (n_cons (n_nil)))) sub_N src_ok)) a_nil)))))
    ss_nil)
    (ss_one (s_for PassesOwn.leaving (i_seq (f2d (e_callTy callListX o_keys p.b_list Wv.bt_list (a_b (bd (e_ix ixAll o_ix (bd (e_var 4)) (bd e_int))) a_nil)))) (g_name (i := 5) sc_colours_for.nd)
    (ss_one (s_put (i := 1) hu (e_ix ixAll o_ix (bd (e_var 5)) (bd e_int)) (e_ix ixAll o_ix (bd (e_var 5)) (bd e_int)))))))))
    ss_nil)))
    (ss_cons (s_setLc (i := 6) sc_colours_for.nd (N' := ["number", "given"]) (src := [none, some 1]) (LcOk.of ["picture", "given", "thread", "tries", "good", "step", "warps", "wefts"] (defScope s_colours_for) rfl rfl (by decide +kernel)) (i_ran1 p.b_range (a_b (bd (e_callB callLen o_len p.b_len Wv.bt_len (a_b (bd (e_ix ixAll o_ix (bd (e_var 0)) (bd e_int))) a_nil))) a_nil)) (fun _ _ _ _ => (g_name (i := 0) (show (["number", "given"] : List Str).Nodup by decide +kernel))) (fun _ _ _ _ => ptl_yes) (fun _ _ _ _ => (e_ix (ixDict hu) o_ixK (b_var 1) (bd (e_tup (a_d e_str (a_d (e_var 0) a_nil)))))) sub_N src_ok)
    (ss_cons (s_setLc (i := 7) sc_colours_for.nd (N' := ["number", "given"]) (src := [none, some 1]) (LcOk.of ["picture", "given", "thread", "tries", "good", "step", "warps", "wefts"] (defScope s_colours_for) rfl rfl (by decide +kernel)) (i_ran1 p.b_range (a_b (bd (e_callB callLen o_len p.b_len Wv.bt_len (a_b (bd (e_var 0)) a_nil))) a_nil)) (fun _ _ _ _ => (g_name (i := 0) (show (["number", "given"] : List Str).Nodup by decide +kernel))) (fun _ _ _ _ => ptl_yes) (fun _ _ _ _ => (e_ix (ixDict hu) o_ixK (b_var 1) (bd (e_tup (a_d e_str (a_d (e_var 0) a_nil)))))) sub_N src_ok)
    (ss_one (s_ret (e_tup (a_d e_str (a_d (e_var 6) (a_d (e_var 7) a_nil))))))))))
def mb__law_cell : Ev → R Fl := (sSeq (sIf (mTst (m2 (mV 1) (mFn lenD (mCons (mV 0) mNil)) ltD))
  (sRet (m2 (mV 0) (mV 1) ixD))
  sNil)
  (sRet (mC (.int 0))))
def m__law_cell : List D → R D := runB 2 mb__law_cell
theorem sc__law_cell : FnScope ["_law_script", "_law_k"] ["_law_script", "_law_k"] (defScope s__law_cell) := ⟨rfl, rfl, rfl, by decide +kernel, rfl, by decide +kernel, by decide +kernel⟩
set_option maxHeartbeats 4000000 in
theorem fn__law_cell (p : Pr K mg w aNoThread) {f : Addr} {fd : FuncData} (D : DefOk K mg "_law_cell" s__law_cell ["_law_script", "_law_k"] f fd) : FnOk P w K mg base (CX1 P w) 1 f fd ["_law_script", "_law_k"] (spD K mg w 2 m__law_cell) := by
  refine fnD (ow := [false, false]) (k := 0) D.F sc__law_cell rfl fun cdv A outer s H E hr => ?_
  have hu := hr.units
  exact (ss_cons (s_if (t_cmp op_lt o_lt (bd (e_var 1)) (bd (e_callB callLen o_len p.b_len Wv.bt_len (a_b (bd (e_var 0)) a_nil))) (nomark _))
    (ss_one (s_ret (e_ix ixAll o_ix (bd (e_var 0)) (bd (e_var 1)))))
    ss_nil)
    (ss_one (s_ret e_int)))
def mb__law_mix : Ev → R Fl := (sRet (m2 (m2 (m2 (mV 0) (mC (.int 48271)) mulD) (mV 1) modD) (mV 2) modD))
def m__law_mix : List D → R D := runB 3 mb__law_mix
theorem sc__law_mix : FnScope ["_law_cell_here", "_law_prime", "_law_many"] ["_law_cell_here", "_law_prime", "_law_many"] (defScope s__law_mix) := ⟨rfl, rfl, rfl, by decide +kernel, rfl, by decide +kernel, by decide +kernel⟩
set_option maxHeartbeats 4000000 in
theorem fn__law_mix (p : Pr K mg w aNoThread) {f : Addr} {fd : FuncData} (D : DefOk K mg "_law_mix" s__law_mix ["_law_cell_here", "_law_prime", "_law_many"] f fd) : FnOk P w K mg base (CX1 P w) 1 f fd ["_law_cell_here", "_law_prime", "_law_many"] (spD K mg w 3 m__law_mix) := by
  refine fnD (ow := [false, false, false]) (k := 0) D.F sc__law_mix rfl fun cdv A outer s H E hr => ?_
  have hu := hr.units
  exact (ss_one (s_ret (e_op op_mod o_mod (bd (e_op op_mod o_mod (bd (e_op op_mulAll o_mul (bd (e_var 0)) (bd e_int))) (bd (e_var 1)))) (bd (e_var 2)))))
def mb__law_size : Ev → R Fl := (sSeq (sIf (mTst (m2 (mFn m__law_mix (mCons (mV 0) (mCons (mC (.int 9901)) (mCons (mC (.int 8)) mNil)))) (mC (.int 3)) eqD))
  (sRet (m2 (mC (.int 1)) (mFn m__law_mix (mCons (mV 0) (mCons (mC (.int 9973)) (mCons (mC (.int 16)) mNil)))) addD))
  sNil)
  (sRet (m2 (mC (.int 1)) (mFn m__law_mix (mCons (mV 0) (mCons (mC (.int 9973)) (mCons (mC (.int 6)) mNil)))) addD)))
def m__law_size : List D → R D := runB 1 mb__law_size
theorem sc__law_size : FnScope ["_law_cell_here"] ["_law_cell_here"] (defScope s__law_size) := ⟨rfl, rfl, rfl, by decide +kernel, rfl, by decide +kernel, by decide +kernel⟩
set_option maxHeartbeats 4000000 in
theorem fn__law_size (p : Pr K mg w aNoThread) {f : Addr} {fd : FuncData} (D : DefOk K mg "_law_size" s__law_size ["_law_cell_here"] f fd) : FnOk P w K mg base (CX1 P w) 2 f fd ["_law_cell_here"] (spD K mg w 1 m__law_size) := by
  obtain ⟨f__law_mix, fd__law_mix, D__law_mix⟩ := p.d__law_mix
  have G__law_mix := fn__law_mix (P := P) (w := w) (base := base) p D__law_mix
  refine fnD (ow := [false]) (k := 1) D.F sc__law_size rfl fun cdv A outer s H E hr => ?_
  have hu := hr.units
  exact (ss_cons (s_if (t_cmp (opEq hu) o_eq (bd (e_call G__law_mix (hr.mono (by decide)) D__law_mix.m D__law_mix.F.kp D__law_mix.b (pass1 fun _ _ h => h) (a_d (e_var 0) (a_d e_int (a_d e_int a_nil))) (n_cons (n_cons (n_cons (n_nil)))))) (bd e_int) (nomark _))
    (ss_one (s_ret (e_op op_addAll o_add (bd e_int) (bd (e_call G__law_mix (hr.mono (by decide)) D__law_mix.m D__law_mix.F.kp D__law_mix.b (pass1 fun _ _ h => h) (a_d (e_var 0) (a_d e_int (a_d e_int a_nil))) (n_cons (n_cons (n_cons (n_nil)))))))))
    ss_nil)
    (ss_one (s_ret (e_op op_addAll o_add (bd e_int) (bd (e_call G__law_mix (hr.mono (by decide)) D__law_mix.m D__law_mix.F.kp D__law_mix.b (pass1 fun _ _ h => h) (a_d (e_var 0) (a_d e_int (a_d e_int a_nil))) (n_cons (n_cons (n_cons (n_nil))))))))))
def mb__law_cloth : Ev → R Fl := (sSeq (sSet 2 (mFn m__law_size (mCons (mFn m__law_cell (mCons (mV 0) (mCons (mV 1) mNil))) mNil)))
  (sSeq (sSet 3 (mFn m__law_size (mCons (mFn m__law_cell (mCons (mV 0) (mCons (m2 (mV 1) (mC (.int 1)) addD) mNil))) mNil)))
  (sSeq (sSet 4 (mFn m__law_mix (mCons (m2 (mFn m__law_cell (mCons (mV 0) (mCons (mV 1) mNil))) (m2 (mC (.int 3)) (mFn m__law_cell (mCons (mV 0) (mCons (m2 (mV 1) (mC (.int 1)) addD) mNil))) mulD) addD) (mCons (mC (.int 9871)) (mCons (mC (.int 3)) mNil)))))
  (sSeq (sSet 5 (mLst mNil))
  (sSeq (sFor (mIt (mCons (mV 2) mNil) ran1) (gN 6)
  (sSeq (sSet 7 (mLst mNil))
  (sSeq (sFor (mIt (mCons (mV 3) mNil) ran1) (gN 8)
  (sSeq (sSet 9 (m2 (m2 (mFn m__law_cell (mCons (mV 0) (mCons (m2 (m2 (mV 1) (mC (.int 2)) addD) (m2 (m2 (m2 (mC (.int 3)) (mV 6) mulD) (mV 8) addD) (mC (.int 12)) modD) addD) mNil))) (m2 (m2 (mC (.int 31)) (mV 6) mulD) (mV 6) mulD) addD) (m2 (m2 (mC (.int 57)) (mV 8) mulD) (mV 8) mulD) addD))
  (sSeq (sSet 10 (mFn m__law_mix (mCons (mV 9) (mCons (mC (.int 9949)) (mCons (mC (.int 2)) mNil)))))
  (sSeq (sIf (mTst (m2 (mV 4) (mC (.int 1)) eqD))
  (sSet 10 (mFn intOfD (mCons (m2 (m2 (m2 (m2 (mV 6) (mV 8) addD) (m2 (mFn m__law_mix (mCons (mV 9) (mCons (mC (.int 9941)) (mCons (mC (.int 12)) mNil)))) (mC (.int 11)) fdivD) addD) (mC (.int 3)) modD) (mC (.int 0)) gtD) mNil)))
  sNil)
  (sSeq (sIf (mTst (m2 (mV 4) (mC (.int 2)) eqD))
  (sSet 10 (mFn intOfD (mCons (m2 (mFn m__law_mix (mCons (mV 9) (mCons (mC (.int 9931)) (mCons (mC (.int 6)) mNil)))) (mC (.int 0)) eqD) mNil)))
  sNil)
  (sApp 7 (mV 10)))))))
  (sApp 5 (mFn tupleD (mCons (mV 7) mNil))))))
  (sRet (mFn tupleD (mCons (mV 5) mNil))))))))
def m__law_cloth : List D → R D := runB 11 mb__law_cloth
theorem sc__law_cloth : FnScope ["_law_script", "_law_at", "_law_rows", "_law_wide", "_law_way", "_law_found", "_law_r", "_law_row", "_law_c", "_law_seed", "_law_bit"] ["_law_script", "_law_at"] (defScope s__law_cloth) := ⟨rfl, rfl, rfl, by decide +kernel, rfl, by decide +kernel, by decide +kernel⟩
set_option maxHeartbeats 4000000 in
theorem fn__law_cloth (p : Pr K mg w aNoThread) {f : Addr} {fd : FuncData} (D : DefOk K mg "_law_cloth" s__law_cloth ["_law_script", "_law_at"] f fd) : FnOk P w K mg base (CX1 P w) 3 f fd ["_law_script", "_law_at"] (spD K mg w 2 m__law_cloth) := by
  obtain ⟨f__law_size, fd__law_size, D__law_size⟩ := p.d__law_size
  have G__law_size := fn__law_size (P := P) (w := w) (base := base) p D__law_size
  obtain ⟨f__law_cell, fd__law_cell, D__law_cell⟩ := p.d__law_cell
  have G__law_cell := fn__law_cell (P := P) (w := w) (base := base) p D__law_cell
  obtain ⟨f__law_mix, fd__law_mix, D__law_mix⟩ := p.d__law_mix
  have G__law_mix := fn__law_mix (P := P) (w := w) (base := base) p D__law_mix
  refine fnD (ow := [false, false, false, false, false, true, false, true, false, false, false]) (k := 2) D.F sc__law_cloth rfl fun cdv A outer s H E hr => ?_
  have hu := hr.units
  exact (ss_cons (s_set (i := 2) sc__law_cloth.nd (e_call G__law_size (hr.mono (by decide)) D__law_size.m D__law_size.F.kp D__law_size.b (pass1 fun _ _ h => h) (a_d (e_call G__law_cell (hr.mono (by decide)) D__law_cell.m D__law_cell.F.kp D__law_cell.b (pass1 fun _ _ h => h) (a_d (e_var 0) (a_d (e_var 1) a_nil)) (n_cons (n_cons (n_nil)))) a_nil) (n_cons (n_nil))))
    (ss_cons (s_set (i := 3) sc__law_cloth.nd (e_call G__law_size (hr.mono (by decide)) D__law_size.m D__law_size.F.kp D__law_size.b (pass1 fun _ _ h => h) (a_d (e_call G__law_cell (hr.mono (by decide)) D__law_cell.m D__law_cell.F.kp D__law_cell.b (pass1 fun _ _ h => h) (a_d (e_var 0) (a_d (e_op op_addAll o_add (bd (e_var 1)) (bd e_int)) a_nil)) (n_cons (n_cons (n_nil)))) a_nil) (n_cons (n_nil))))
    (ss_cons (s_set (i := 4) sc__law_cloth.nd (e_call G__law_mix (hr.mono (by decide)) D__law_mix.m D__law_mix.F.kp D__law_mix.b (pass1 fun _ _ h => h) (a_d (e_op op_addAll o_add (bd (e_call G__law_cell (hr.mono (by decide)) D__law_cell.m D__law_cell.F.kp D__law_cell.b (pass1 fun _ _ h => h) (a_d (e_var 0) (a_d (e_var 1) a_nil)) (n_cons (n_cons (n_nil))))) (bd (e_op op_mulAll o_mul (bd e_int) (bd (e_call G__law_cell (hr.mono (by decide)) D__law_cell.m D__law_cell.F.kp D__law_cell.b (pass1 fun _ _ h => h) (a_d (e_var 0) (a_d (e_op op_addAll o_add (bd (e_var 1)) (bd e_int)) a_nil)) (n_cons (n_cons (n_nil)))))))) (a_d e_int (a_d e_int a_nil))) (n_cons (n_cons (n_cons (n_nil))))))
    (ss_cons (s_setF (i := 5) sc__law_cloth.nd (e_lst a_nil))
    (ss_cons (s_for PassesOwn.leaving (i_ran1 p.b_range (a_b (bd (e_var 2)) a_nil)) (g_name (i := 6) sc__law_cloth.nd)
    (ss_cons (s_setF (i := 7) sc__law_cloth.nd (e_lst a_nil))
    (ss_cons (s_for PassesOwn.leaving (i_ran1 p.b_range (a_b (bd (e_var 3)) a_nil)) (g_name (i := 8) sc__law_cloth.nd)
    (ss_cons (s_set (i := 9) sc__law_cloth.nd (e_op op_addAll o_add (bd (e_op op_addAll o_add (bd (e_call G__law_cell (hr.mono (by decide)) D__law_cell.m D__law_cell.F.kp D__law_cell.b (pass1 fun _ _ h => h) (a_d (e_var 0) (a_d (e_op op_addAll o_add (bd (e_op op_addAll o_add (bd (e_var 1)) (bd e_int))) (bd (e_op op_mod o_mod (bd (e_op op_addAll o_add (bd (e_op op_mulAll o_mul (bd e_int) (bd (e_var 6)))) (bd (e_var 8)))) (bd e_int)))) a_nil)) (n_cons (n_cons (n_nil))))) (bd (e_op op_mulAll o_mul (bd (e_op op_mulAll o_mul (bd e_int) (bd (e_var 6)))) (bd (e_var 6)))))) (bd (e_op op_mulAll o_mul (bd (e_op op_mulAll o_mul (bd e_int) (bd (e_var 8)))) (bd (e_var 8))))))
    (ss_cons (s_set (i := 10) sc__law_cloth.nd (e_call G__law_mix (hr.mono (by decide)) D__law_mix.m D__law_mix.F.kp D__law_mix.b (pass1 fun _ _ h => h) (a_d (e_var 9) (a_d e_int (a_d e_int a_nil))) (n_cons (n_cons (n_cons (n_nil))))))
    (ss_cons (s_if (t_cmp (opEq hu) o_eq (bd (e_var 4)) (bd e_int) (nomark _))
    (ss_one (s_set (i := 10) sc__law_cloth.nd (e_callTy callInt o_intOf p.b_int Wv.bt_int (a_b (bd (e_cmp op_gt o_gt (bd (e_op op_mod o_mod (bd (e_op op_addAll o_add (bd (e_op op_addAll o_add (bd (e_var 6)) (bd (e_var 8)))) (bd (e_op op_fdiv o_fdiv (bd (e_call G__law_mix (hr.mono (by decide)) D__law_mix.m D__law_mix.F.kp D__law_mix.b (pass1 fun _ _ h => h) (a_d (e_var 9) (a_d e_int (a_d e_int a_nil))) (n_cons (n_cons (n_cons (n_nil)))))) (bd e_int))))) (bd e_int))) (bd e_int) (nomark _))) a_nil))))
    ss_nil)
    (ss_cons (s_if (t_cmp (opEq hu) o_eq (bd (e_var 4)) (bd e_int) (nomark _))
    (ss_one (s_set (i := 10) sc__law_cloth.nd (e_callTy callInt o_intOf p.b_int Wv.bt_int (a_b (bd (e_cmp (opEq hu) o_eq (bd (e_call G__law_mix (hr.mono (by decide)) D__law_mix.m D__law_mix.F.kp D__law_mix.b (pass1 fun _ _ h => h) (a_d (e_var 9) (a_d e_int (a_d e_int a_nil))) (n_cons (n_cons (n_cons (n_nil)))))) (bd e_int) (nomark _))) a_nil))))
    ss_nil)
    (ss_one (s_app (i := 7) (e_var 10))))))))
    (ss_one (s_app (i := 5) (e_callTy callTuple o_tuple p.b_tuple Wv.bt_tuple (a_b (b_var 7) a_nil)))))))
    (ss_one (s_ret (e_callTy callTuple o_tuple p.b_tuple Wv.bt_tuple (a_b (b_var 5) a_nil)))))))))
def mb__law_lists : Ev → R Fl := (sSeq (sSet 1 (mLst (mCons (mFn m_threads (mCons (mV 0) mNil)) (mCons (mFn m_layers (mCons (mV 0) mNil)) (mCons (mFn m_lifts_with (mCons (mV 0) (mCons (mTup (mCons (mC (.str "warp")) (mCons (mC (.int 0)) mNil))) mNil))) (mCons (m2 (mFn m_colours_for (mCons (mV 0) mNil)) (mC (.int 1)) ixD) mNil))))))
  (sSeq (sSet 2 (mFn m_a_lift (mCons (mV 0) mNil)))
  (sSeq (sIf (mTst (m2 (mV 2) (mC .non) notND))
  (sApp 1 (mV 2))
  sNil)
  (sRet (mV 1)))))
def m__law_lists : List D → R D := runB 3 mb__law_lists
theorem sc__law_lists : FnScope ["_law_cloth_here", "_law_found", "_law_lift"] ["_law_cloth_here"] (defScope s__law_lists) := ⟨rfl, rfl, rfl, by decide +kernel, rfl, by decide +kernel, by decide +kernel⟩
set_option maxHeartbeats 4000000 in
theorem fn__law_lists (p : Pr K mg w aNoThread) {f : Addr} {fd : FuncData} (D : DefOk K mg "_law_lists" s__law_lists ["_law_cloth_here"] f fd) : FnOk P w K mg base (CX1 P w) 7 f fd ["_law_cloth_here"] (spD K mg w 1 m__law_lists) := by
  obtain ⟨f_colours_for, fd_colours_for, D_colours_for⟩ := p.d_colours_for
  have G_colours_for := fn_colours_for (P := P) (w := w) (base := base) p D_colours_for
  obtain ⟨f_lifts_with, fd_lifts_with, D_lifts_with⟩ := p.d_lifts_with
  have G_lifts_with := fn_lifts_with (P := P) (w := w) (base := base) p D_lifts_with
  obtain ⟨f_layers, fd_layers, D_layers⟩ := p.d_layers
  have G_layers := fn_layers (P := P) (w := w) (base := base) p D_layers
  obtain ⟨f_threads, fd_threads, D_threads⟩ := p.d_threads
  have G_threads := fn_threads (P := P) (w := w) (base := base) p D_threads
  obtain ⟨f_a_lift, fd_a_lift, D_a_lift⟩ := p.d_a_lift
  have G_a_lift := fn_a_lift (P := P) (w := w) (base := base) p D_a_lift
  refine fnD (ow := [false, true, false]) (k := 6) D.F sc__law_lists rfl fun cdv A outer s H E hr => ?_
  have hu := hr.units
  exact (ss_cons (s_setF (i := 1) sc__law_lists.nd (e_lst (a_d (e_call G_threads (hr.mono (by decide)) D_threads.m D_threads.F.kp D_threads.b (pass1 fun _ _ h => h) (a_d (e_var 0) a_nil) (n_cons (n_nil))) (a_d (e_call G_layers (hr.mono (by decide)) D_layers.m D_layers.F.kp D_layers.b (pass1 fun _ _ h => h) (a_d (e_var 0) a_nil) (n_cons (n_nil))) (a_d (e_call G_lifts_with (hr.mono (by decide)) D_lifts_with.m D_lifts_with.F.kp D_lifts_with.b (pass1 fun _ _ h => h) (a_d (e_var 0) (a_d (e_tup (a_d e_str (a_d e_int a_nil))) a_nil)) (n_cons (n_cons (n_nil)))) (a_d (e_ix ixAll o_ix (bd (e_call G_colours_for (hr.mono (by decide)) D_colours_for.m D_colours_for.F.kp D_colours_for.b (pass1 fun _ _ h => h) (a_d (e_var 0) a_nil) (n_cons (n_nil)))) (bd e_int)) a_nil))))))
    (ss_cons (s_set (i := 2) sc__law_lists.nd (e_call G_a_lift (hr.mono (by decide)) D_a_lift.m D_a_lift.F.kp D_a_lift.b (pass1 fun _ _ h => h) (a_d (e_var 0) a_nil) (n_cons (n_nil))))
    (ss_cons (s_if (t_cmp op_notN o_notN (bd (e_var 2)) (bd e_non) (nomark _))
    (ss_one (s_app (i := 1) (e_var 2)))
    ss_nil)
    (ss_one (s_retV 1)))))
set_option maxHeartbeats 4000000 in
theorem fnL__law_lists (p : Pr K mg w aNoThread) {f : Addr} {fd : FuncData} (D : DefOk K mg "_law_lists" s__law_lists ["_law_cloth_here"] f fd) : FnOk P w K mg base (CX1 P w) 7 f fd ["_law_cloth_here"] (spL K mg w m_threads m_layers m_lifts_with m_colours_for m_a_lift) := by
  obtain ⟨f_colours_for, fd_colours_for, D_colours_for⟩ := p.d_colours_for
  have G_colours_for := fn_colours_for (P := P) (w := w) (base := base) p D_colours_for
  obtain ⟨f_lifts_with, fd_lifts_with, D_lifts_with⟩ := p.d_lifts_with
  have G_lifts_with := fn_lifts_with (P := P) (w := w) (base := base) p D_lifts_with
  obtain ⟨f_layers, fd_layers, D_layers⟩ := p.d_layers
  have G_layers := fn_layers (P := P) (w := w) (base := base) p D_layers
  obtain ⟨f_threads, fd_threads, D_threads⟩ := p.d_threads
  have G_threads := fn_threads (P := P) (w := w) (base := base) p D_threads
  obtain ⟨f_a_lift, fd_a_lift, D_a_lift⟩ := p.d_a_lift
  have G_a_lift := fn_a_lift (P := P) (w := w) (base := base) p D_a_lift
  refine D.F.okR (k := 6) sc__law_lists (fun vs H Q E h => by obtain ⟨os, cl, v, l0, l1, l2, l3, d4, rfl, _⟩ := h; rfl) fun cdv A outer s H vs Q E hr h => ⟨_, ?_, spL_run (E := E) (tc := tTest (tOp (fun x y H Q => y = .non ∧ Q (.bl (!decide (x = .non))) H) (tVar 2) (tC .non))) (fun σ H Q v hv q => ⟨v, hv, rfl, _, rfl, q⟩) h⟩
  · exact pss_cons (ps_asg (pe_lst (pa_cons (pe_kd (e_callN (ow := [false, false, false]) G_threads (hr.mono (by decide)) D_threads.m D_threads.F.kp D_threads.b (pass1 fun _ _ h => h) (a_d (e_var 0) a_nil) (n_cons (n_nil))))
      (pa_cons (pe_kd (e_callN (ow := [false, false, false]) G_layers (hr.mono (by decide)) D_layers.m D_layers.F.kp D_layers.b (pass1 fun _ _ h => h) (a_d (e_var 0) a_nil) (n_cons (n_nil))))
      (pa_cons (pe_kd (e_callN (ow := [false, false, false]) G_lifts_with (hr.mono (by decide)) D_lifts_with.m D_lifts_with.F.kp D_lifts_with.b (pass1 fun _ _ h => h) (a_d (e_var 0) (a_d (e_tup (a_d e_str (a_d e_int a_nil))) a_nil)) (n_cons (n_cons (n_nil)))))
      (pa_cons (pe_kd (pe_ix ixAll (e_callN (ow := [false, false, false]) G_colours_for (hr.mono (by decide)) D_colours_for.m D_colours_for.F.kp D_colours_for.b (pass1 fun _ _ h => h) (a_d (e_var 0) a_nil) (n_cons (n_nil))) pe_int (fun _ _ => rfl))) pa_nil))))) (pg_name (i := 1) sc__law_lists.nd rfl (Or.inl rfl)))
        (pss_cons (ps_asg (pe_kd (e_callN (ow := [false, false, false]) G_a_lift (hr.mono (by decide)) D_a_lift.m D_a_lift.F.kp D_a_lift.b (pass1 fun _ _ h => h) (a_d (e_var 0) a_nil) (n_cons (n_nil)))) (pg_name (i := 2) sc__law_lists.nd rfl (Or.inl rfl)))
        (pss_cons (ps_if (pt_cmpR op_notN (pe_var (i := 2) rfl (Or.inl rfl)) pe_non (nomark _))
      (pss_one (ps_expr (pe_bm PySem.F.plainAttrs_list PySem.F.slot_list_append PySem.F.type_list_append mt_append (pe_var (i := 1) rfl (Or.inl rfl)) (pa_cons (pe_var (i := 2) rfl (Or.inl rfl)) pa_nil))))
      pss_nil)
        (pss_one (ps_ret (pe_var (i := 1) rfl (Or.inl rfl))))))
def mInner : Ev → R D := mLc (mItems (mFn m_layers (mCons (mV 1) mNil))) [none] (gN 0) mYes (mFn listD (mCons (mV 0) mNil))
def kTail : Ev → R Fl := (sSeq (sIf (mTor (mTst (m2 (mFn lenD (mCons (m2 (mV 3) (mC (.int 0)) ixD) mNil)) (m2 (mFn lenD (mCons (mV 1) mNil)) (mFn lenD (mCons (m2 (mV 1) (mC (.int 0)) ixD) mNil)) addD) neD)) (mTst (m2 (mTup (mCons (mC (.str "warp")) (mCons (mC (.int 0)) mNil))) (m2 (mV 3) (mC (.int 2)) ixD) (inQ true))))
  (sRet (mC (.bl false)))
  sNil)
  (sRet (mAnd (m2 (mFn m__law_lists (mCons (mV 1) mNil)) (mV 3) eqD) (m2 (mFn m_layers (mCons (mV 1) mNil)) (mV 4) eqD))))
noncomputable def mb_law : Ev → R Fl := sSeq (sSet 1 (mFn m__law_cloth (mCons (mV 0) (mCons (mC (.int 0)) mNil)))) (sBig m_threads m_layers m_lifts_with m_colours_for m_a_lift mInner kTail)
noncomputable def m_law : List D → R D := runB 6 mb_law
theorem sc_law : FnScope ["_law_script", "_law_cloth_here", "_law_rows", "_law_due", "_law_inner", "_law_row"] ["_law_script"] (defScope s_law) := ⟨rfl, rfl, rfl, by decide +kernel, rfl, by decide +kernel, by decide +kernel⟩
set_option maxHeartbeats 4000000 in
theorem fn_law (p : Pr K mg w aNoThread) {f : Addr} {fd : FuncData} (D : DefOk K mg "law" s_law ["_law_script"] f fd) : FnOk P w K mg base (CX1 P w) 8 f fd ["_law_script"] (spD K mg w 1 m_law) := by
  obtain ⟨f__law_cloth, fd__law_cloth, D__law_cloth⟩ := p.d__law_cloth
  have G__law_cloth := fn__law_cloth (P := P) (w := w) (base := base) p D__law_cloth
  obtain ⟨f__law_lists, fd__law_lists, D__law_lists⟩ := p.d__law_lists
  have G__law_lists := fn__law_lists (P := P) (w := w) (base := base) p D__law_lists
  have GL__law_lists := fnL__law_lists (P := P) (w := w) (base := base) p D__law_lists
  obtain ⟨f_layers, fd_layers, D_layers⟩ := p.d_layers
  have G_layers := fn_layers (P := P) (w := w) (base := base) p D_layers
  refine fnD (ow := ow6) (k := 7) D.F sc_law rfl fun cdv A outer s H E hr => ?_
  have hu := hr.units
  refine ss_cons (s_set (i := 1) sc_law.nd (e_call G__law_cloth (hr.mono (by decide)) D__law_cloth.m D__law_cloth.F.kp D__law_cloth.b (pass1 fun _ _ h => h) (a_d (e_var 0) (a_d e_int a_nil)) (n_cons (n_cons (n_nil))))) ?_
  refine (pss_cons (ps_asg (pe_call (E := E) GL__law_lists (hr.mono (by decide)) (by rfl) D__law_lists.m D__law_lists.F.kp D__law_lists.b .nil (pass1 fun _ _ h => h) (pa_cons (pe_var (i := 1) rfl (Or.inl rfl)) pa_nil)) (pg_name (i := 2) sc_law.nd rfl (Or.inl rfl)))
    (pss_cons (ps_setLc (i := 3) rfl sc_law.nd rfl (Or.inl rfl) (N' := ["_law_row"]) (src := [none]) (LcOk.of ["_law_script", "_law_cloth_here", "_law_rows", "_law_due", "_law_inner", "_law_row"] (defScope s_law) rfl rfl (by decide +kernel)) (pi_list (pe_var (i := 2) rfl (Or.inl rfl))) (fun _ _ _ _ => pg_name (i := 0) (show (["_law_row"] : List Str).Nodup by decide +kernel) rfl (Or.inl rfl)) (fun _ _ _ _ => ptl_nil) (fun _ _ _ _ => pe_callTy callList (by rfl) p.b_list Wv.bt_list (pa_cons (pe_var (i := 0) rfl (Or.inl rfl)) pa_nil)))
    (pss_cons ((ps_setLc (i := 4) rfl sc_law.nd rfl (Or.inl rfl) (N' := ["_law_row"]) (src := [none]) (LcOk.of ["_law_script", "_law_cloth_here", "_law_rows", "_law_due", "_law_inner", "_law_row"] (defScope s_law) rfl rfl (by decide +kernel)) (i_seq (e_call G_layers (hr.mono (by decide)) D_layers.m D_layers.F.kp D_layers.b (pass1 fun _ _ h => h) (a_d (e_var 1) a_nil) (n_cons (n_nil)))) (fun _ _ _ _ => (g_name (i := 0) (show (["_law_row"] : List Str).Nodup by decide +kernel))) (fun _ _ _ _ => ptl_yes) (fun _ _ _ _ => (f2d (e_callTy callList o_list p.b_list Wv.bt_list (a_b (bd (e_var 0)) a_nil))))).mono fun Dn σ H h => lc_go (sub_N) src_ok (fd_go h))
    (pss_cons (ps_for PassesOwn.leaving rfl (pi_list (pe_kd (e_callN (ow := ow6) G_layers (hr.mono (by decide)) D_layers.m D_layers.F.kp D_layers.b (pass1 fun _ _ h => h) (a_d (e_var 1) a_nil) (n_cons (n_nil))))) (pg_name (i := 5) sc_law.nd rfl (Or.inl rfl)) (pss_one (ps_expr (pe_bm0 PySem.F.plainAttrs_list PySem.F.slot_list_clear PySem.F.type_list_clear mt_clear (pe_var (i := 5) rfl (Or.inl rfl))))))
    (pss_cons (ps_for PassesOwn.leaving rfl (pi_list (pe_var (i := 2) rfl (Or.inl rfl))) (pg_name (i := 5) sc_law.nd rfl (Or.inl rfl)) (pss_one (ps_expr (pe_bm0 PySem.F.plainAttrs_list PySem.F.slot_list_clear PySem.F.type_list_clear mt_clear (pe_var (i := 5) rfl (Or.inl rfl))))))
    (ss_cons (s_if (PW.pt (w_or (t_cmp (opNe hu) o_ne (bd (e_callB callLen o_len p.b_len Wv.bt_len (a_b (bd (e_ix ixAll o_ix (bd (e_var 3)) (bd e_int))) a_nil))) (bd (e_op op_addAll o_add (bd (e_callB callLen o_len p.b_len Wv.bt_len (a_b (bd (e_var 1)) a_nil))) (bd (e_callB callLen o_len p.b_len Wv.bt_len (a_b (bd (e_ix ixAll o_ix (bd (e_var 1)) (bd e_int))) a_nil))))) (nomark _)) (w_or1 (t_cmp (opNotInQ hu) o_inQ (bd (e_tup (a_d e_str (a_d e_int a_nil)))) (bd (e_ix ixAll o_ix (bd (e_var 3)) (bd e_int))) (by with_unfolding_all rfl)))))
    (ss_one (s_ret e_bl))
    ss_nil)
    (ss_one (s_ret (e_and (e_cmp (opEq hu) o_eq (bd (e_call G__law_lists (hr.mono (by decide)) D__law_lists.m D__law_lists.F.kp D__law_lists.b (pass1 fun _ _ h => h) (a_d (e_var 1) a_nil) (n_cons (n_nil)))) (bd (e_var 3)) (nomark _)) (e_one (e_cmp (opEq hu) o_eq (bd (e_call G_layers (hr.mono (by decide)) D_layers.m D_layers.F.kp D_layers.b (pass1 fun _ _ h => h) (a_d (e_var 1) a_nil) (n_cons (n_nil)))) (bd (e_var 4)) (nomark _)))))))))))).mono fun Dn σ H h => big_go ?_ (fun _ _ _ z => z) h
  intro os cl σ H Q l0 l1 l2 l3 d4 L five fin
  obtain ⟨v, h1, h2⟩ := L.at1
  exact ⟨v, h1, os, cl, v, l0, l1, l2, l3, d4, rfl, L.dom, h2, five, fin⟩
end
end DL
namespace DL
open PySem PySem.Spec L2 Wv
local macro_rules | `(tactic| walk_at "evx") => `(tactic| fail "evx")
local macro_rules | `(tactic| walk_at "ev") => `(tactic| repeat' (first
  | with_reducible exact v_c | (with_reducible apply v_var; exact rfl) | with_reducible exact v_nil | with_reducible exact v_noP | with_reducible apply v_2 | with_reducible apply v_fn | with_reducible apply v_cons | with_reducible apply v_tst | with_reducible apply v_tup | with_reducible apply v_lst | with_reducible apply v_inst
  | with_reducible apply v_it | with_reducible apply v_tru | with_reducible apply v_tn | with_reducible apply v_neg | with_reducible apply v_not | with_reducible apply v_items | with_reducible apply v_sl | with_reducible apply v_part
  | with_reducible exact l_eqI _ _ | with_reducible exact l_mulL (by omega) (by omega) | with_reducible exact l_mulR (by omega) (by omega) | with_reducible exact l_mod (by omega) | with_reducible exact l_fdiv (by omega) | with_reducible exact l_ran1 (by omega) (by omega)
  | walk_at "evx" | exact rfl))
theorem d_cell {ns : List Int} {k : Int} (h0 : 0 ≤ k) : m__law_cell [.scr ns, .int k] = .ok (.int (cellM ns k)) := by
  refine x_run ?_
  by_cases h : k < (ns.length : Int)
  · have hk : k.toNat < ns.length := by omega
    have e : atI ns k = some (cellM ns k) := atI_nn h0 (by unfold cellM; rw [List.getD_eq_getElem?_getD, List.getElem?_eq_getElem hk]; rfl)
    refine x_if_t (v_tst (v_eq (v_2 (v_var rfl) (v_fn (v_cons (v_var rfl) v_nil) rfl) rfl) (by rw [decide_eq_true h]))) (x_seqret (v_2 (v_var rfl) (v_var rfl) ?_))
    unfold ixD
    dsimp only
    rw [e]
  · have e : cellM ns k = 0 := by
      unfold cellM
      rw [List.getD_eq_getElem?_getD, List.getElem?_eq_none (by omega)]
      rfl
    rw [e]
    exact x_if_f (v_tst (v_eq (v_2 (v_var rfl) (v_fn (v_cons (v_var rfl) v_nil) rfl) rfl) (by rw [decide_eq_false h]))) (x_nil (x_ret v_c))
theorem d_mix {c p m : Int} (hp : 0 < p) (hm : 0 < m) : m__law_mix [.int c, .int p, .int m] = .ok (.int (mixM c p m)) := by
  refine x_run (x_ret ?_)
  unfold mixM
  walk_at "ev"
local macro_rules | `(tactic| walk_at "evx") => `(tactic| first | with_reducible exact d_mix (by omega) (by omega) | with_reducible exact d_cell (by omega))
theorem d_size {c : Int} : m__law_size [.int c] = .ok (.int (sizeM c)) := by
  refine x_run ?_
  unfold sizeM
  by_cases h : mixM c 9901 8 = 3
  · rw [if_pos h]
    refine x_if_t (v_tst (v_eq (y := .bl true) (by walk_at "ev") (by rw [decide_eq_true h]))) (x_seqret ?_)
    walk_at "ev"
  · rw [if_neg h]
    refine x_if_f (v_tst (v_eq (y := .bl false) (by walk_at "ev") (by rw [decide_eq_false h]))) (x_nil (x_ret ?_))
    walk_at "ev"
end DL
namespace DL
open PySem PySem.Spec L2 Wv
local macro_rules | `(tactic| walk_at "evx") => `(tactic| fail "evx")
local macro_rules | `(tactic| walk_at "ev") => `(tactic| repeat' (first
  | with_reducible exact v_c | (with_reducible apply v_var; exact rfl) | with_reducible exact v_nil | with_reducible exact v_noP | with_reducible apply v_2 | with_reducible apply v_fn | with_reducible apply v_cons | with_reducible apply v_tst | with_reducible apply v_tup | with_reducible apply v_lst | with_reducible apply v_inst
  | with_reducible apply v_it | with_reducible apply v_tru | with_reducible apply v_tn | with_reducible apply v_neg | with_reducible apply v_not | with_reducible apply v_items | with_reducible apply v_sl | with_reducible apply v_part
  | with_reducible exact l_eqI _ _ | with_reducible exact l_mulL (by omega) (by omega) | with_reducible exact l_mulR (by omega) (by omega) | with_reducible exact l_mod (by omega) | with_reducible exact l_fdiv (by omega) | with_reducible exact l_ran1 (by omega) (by omega)
  | walk_at "evx" | exact rfl))
local macro_rules | `(tactic| walk_at "evx") => `(tactic| first | with_reducible exact d_mix (by omega) (by omega) | with_reducible exact d_cell (by omega))
theorem d_cloth {ns : List Int} {k : Int} (hk : 0 ≤ k) : m__law_cloth [.scr ns, .int k] = .ok (clD (clothM ns k)) := by
  have w1 := sizeM_lo (cellM ns k)
  have w2 := sizeM_hi (cellM ns k)
  have w3 := sizeM_lo (cellM ns (k + 1))
  have w4 := sizeM_hi (cellM ns (k + 1))
  refine w_run ?_
  refine w_set (v_fn (v_cons (v_fn (v_cons (v_var rfl) (v_cons (v_var rfl) v_nil)) (d_cell hk)) v_nil) d_size) (w_set (v_fn (v_cons (by walk_at "ev") v_nil) d_size) (w_set (by walk_at "ev") (w_set (v_lst v_nil (by decide)) ?_)))
  refine w_for (fun i ρ => ∃ v6 v7 v8 v9 v10, ρ = [some (.scr ns), some (.int k), some (.int (sizeM (cellM ns k))), some (.int (sizeM (cellM ns (k + 1)))), some (.int (wayM ns k)), some (.lst ((List.range i).map fun r => rowD (rowM ns k (r : Nat)))), v6, v7, v8, v9, v10])
    (v_it (v_cons (v_var rfl) v_nil) (l_ran1 (by omega) (by omega))) ⟨none, none, none, none, none, rfl⟩ ?_ ?_
  · rintro i d ρ hd ⟨v6, v7, v8, v9, v10, rfl⟩
    obtain ⟨hi, rfl⟩ := rangeD_get hd
    refine ⟨_, rfl, w_set (v_lst v_nil (by decide)) ?_⟩
    refine w_for (fun j ρ => ∃ v8 v9 v10, ρ = [some (.scr ns), some (.int k), some (.int (sizeM (cellM ns k))), some (.int (sizeM (cellM ns (k + 1)))), some (.int (wayM ns k)), some (.lst ((List.range i).map fun r => rowD (rowM ns k (r : Nat)))), some (.int (0 + (i : Int))), some (.lst ((List.range j).map fun c => .int (bitM ns k (wayM ns k) (i : Nat) (c : Nat)))), v8, v9, v10])
      (v_it (v_cons (v_var rfl) v_nil) (l_ran1 (by omega) (by omega))) ⟨v8, v9, v10, rfl⟩ ?_ ?_
    · rintro j d ρ hd ⟨v8, v9, v10, rfl⟩
      obtain ⟨hj, rfl⟩ := rangeD_get hd
      have hc := Int.emod_nonneg (3 * (0 + (i : Int)) + (0 + (j : Int))) (show (12 : Int) ≠ 0 by decide)
      have hl : ((List.range j).map fun c => D.int (bitM ns k (wayM ns k) (i : Nat) (c : Nat))).length ≤ 100000 := by
        rw [List.length_map, List.length_range]
        omega
      have fin : ∀ (n : Int) (v9 v10 : Option D), n = bitM ns k (wayM ns k) (i : Nat) (j : Nat) → ∃ ρ2, (Fl.nx [some (.scr ns), some (.int k), some (.int (sizeM (cellM ns k))), some (.int (sizeM (cellM ns (k + 1)))), some (.int (wayM ns k)), some (.lst ((List.range i).map fun r => rowD (rowM ns k (r : Nat)))), some (.int (0 + (i : Int))), some (.lst (((List.range j).map fun c => .int (bitM ns k (wayM ns k) (i : Nat) (c : Nat))) ++ [.int n])), some (.int (0 + (j : Int))), v9, v10] = .nx ρ2 ∨
          Fl.nx [some (.scr ns), some (.int k), some (.int (sizeM (cellM ns k))), some (.int (sizeM (cellM ns (k + 1)))), some (.int (wayM ns k)), some (.lst ((List.range i).map fun r => rowD (rowM ns k (r : Nat)))), some (.int (0 + (i : Int))), some (.lst (((List.range j).map fun c => .int (bitM ns k (wayM ns k) (i : Nat) (c : Nat))) ++ [.int n])), some (.int (0 + (j : Int))), v9, v10] = .ct ρ2) ∧
          ∃ v8 v9 v10, ρ2 = [some (.scr ns), some (.int k), some (.int (sizeM (cellM ns k))), some (.int (sizeM (cellM ns (k + 1)))), some (.int (wayM ns k)), some (.lst ((List.range i).map fun r => rowD (rowM ns k (r : Nat)))), some (.int (0 + (i : Int))), some (.lst ((List.range (j + 1)).map fun c => .int (bitM ns k (wayM ns k) (i : Nat) (c : Nat)))), v8, v9, v10] := fun n v9 v10 hn => by
        refine ⟨_, .inl rfl, ?_⟩
        rw [List.range_succ, List.map_append, hn]
        exact ⟨_, _, _, rfl⟩
      refine ⟨_, rfl, w_set (by walk_at "ev") (w_set (by walk_at "ev") (w_if (by walk_at "ev") (fun h1 => ?_) (fun h1 => ?_)))⟩
      · have h1 := of_decide_eq_true h1
        refine w_set (by walk_at "ev") (w_if (by walk_at "ev") (fun h2 => ?_) (fun h2 => w_nil (w_app1 rfl (v_var rfl) hl (fin _ _ _ (bit1 h1)))))
        have h2 := of_decide_eq_true h2
        omega
      · have h1 := of_decide_eq_false h1
        refine w_nil (w_if (by walk_at "ev") (fun h2 => w_set (by walk_at "ev") (w_app1 rfl (v_var rfl) hl (fin _ _ _ ?_))) (fun h2 => w_nil (w_app1 rfl (v_var rfl) hl (fin _ _ _ (bit0 h1 (of_decide_eq_false h2))))))
        have e := bit2 (ns := ns) (k := k) (r := i) (c := j) (of_decide_eq_true h2)
        simp only [V.int.injEq] at e
        exact e
    · rintro ρ' ⟨v8, v9, v10, rfl⟩
      refine w_app1 rfl (v_fn (v_cons (v_var rfl) v_nil) rfl) ?_ ⟨_, .inl rfl, ?_⟩
      · rw [List.length_map, List.length_range]
        omega
      · rw [rangeD_len, List.range_succ, List.map_append]
        have e3 : rowD (rowM ns k (i : Nat)) = .tup ((List.range (sizeM (cellM ns (k + 1))).toNat).map fun c => .int (bitM ns k (wayM ns k) (i : Nat) (c : Nat))) := by
          unfold rowD rowM
          rw [List.map_map]
          rfl
        rw [List.map_cons, List.map_nil, e3]
        exact ⟨_, _, _, _, _, rfl⟩
  · rintro ρ' ⟨v6, v7, v8, v9, v10, rfl⟩
    refine w_ret (v_fn (v_cons (v_var rfl) v_nil) rfl) ?_
    unfold clD clothM
    rw [List.map_map, rangeD_len]
    rfl
end DL
namespace DL
open PySem PySem.Spec L2 Wv
def numD (b : Int) : D → Bool
  | .int i => decide (0 ≤ i) && decide (i < b)
  | _ => false
theorem d_number {d : D} {b : Int} (h : tyS d ≠ "?") : m_is_number_below [d, .int b] = .ok (.bl (numD b d)) := by
  cases d with
  | int i => exact x_run (x_ret (v_and_t (v_inst (v_var rfl) rfl) (v_and_t (v_notb (v_inst (v_var rfl) rfl) rfl) (v_chain v_c (v_var rfl) rfl (fun _ => v_var rfl) (fun _ => rfl)))))
  | bl x => exact x_run (x_ret (v_and_t (v_inst (v_var rfl) rfl) (v_and_f (v_notb (v_inst (v_var rfl) rfl) rfl))))
  | non => exact x_run (x_ret (v_and_f (v_inst (v_var rfl) rfl)))
  | str x => exact x_run (x_ret (v_and_f (v_inst (v_var rfl) rfl)))
  | tup x => exact x_run (x_ret (v_and_f (v_inst (v_var rfl) rfl)))
  | lst x => exact x_run (x_ret (v_and_f (v_inst (v_var rfl) rfl)))
  | dct _ _ => exact absurd rfl h
  | exc _ => exact absurd rfl h
  | scr _ => exact absurd rfl h
end DL
namespace DL
open PySem PySem.Spec L2 Wv
theorem rowM_ne (ns : List Int) (k r : Int) : (rowM ns k r).length = (sizeM (cellM ns (k + 1))).toNat := by
  unfold rowM
  rw [List.length_map, List.length_range]
theorem clothM_len (ns : List Int) (k : Int) : (clothM ns k).length = (sizeM (cellM ns k)).toNat := by
  unfold clothM
  rw [List.length_map, List.length_range]
structure Cloth (rows : List (List Int)) (n : Nat) : Prop where
  r1 : 1 ≤ rows.length
  r16 : rows.length ≤ 16
  n1 : 1 ≤ n
  n16 : n ≤ 16
  all : ∀ r ∈ rows, r.length = n
  bit : ∀ r ∈ rows, ∀ b ∈ r, b = 0 ∨ b = 1
theorem clothM_ok (ns : List Int) (k : Int) : Cloth (clothM ns k) (sizeM (cellM ns (k + 1))).toNat := by
  have w1 := sizeM_lo (cellM ns k)
  have w2 := sizeM_hi (cellM ns k)
  have w3 := sizeM_lo (cellM ns (k + 1))
  have w4 := sizeM_hi (cellM ns (k + 1))
  refine ⟨by rw [clothM_len]; omega, by rw [clothM_len]; omega, by omega, by omega, fun r hr => ?_, fun r hr b hb => ?_⟩
  · unfold clothM at hr
    obtain ⟨i, _, rfl⟩ := List.mem_map.mp hr
    exact rowM_ne ns k i
  · unfold clothM at hr
    obtain ⟨i, _, rfl⟩ := List.mem_map.mp hr
    unfold rowM at hb
    obtain ⟨j, _, rfl⟩ := List.mem_map.mp hb
    exact bitM_bit ns k _ i j
theorem Cloth.first {rows : List (List Int)} {n : Nat} (h : Cloth rows n) : ∃ r0 rest, rows = r0 :: rest ∧ r0.length = n := by
  cases rows with
  | nil => exact absurd h.r1 (by decide)
  | cons r0 rest => exact ⟨r0, rest, rfl, h.all r0 List.mem_cons_self⟩
theorem v_high {rows : List (List Int)} {i : Nat} {ρ : Ev} (hi : ρ[i]? = some (some (clD rows))) : mFn lenD (mCons (mV i) mNil) ρ = .ok (.int rows.length) := by
  refine v_fn (v_cons (v_var hi) v_nil) ?_
  show R.ok (D.int ((rows.map rowD).length : Nat)) = _
  rw [List.length_map]
structure Rect (rows : List (List Int)) (n : Nat) : Prop where
  r1 : 1 ≤ rows.length
  r16 : rows.length ≤ 16
  n1 : 1 ≤ n
  n16 : n ≤ 16
  all : ∀ r ∈ rows, r.length = n
theorem Cloth.rect {rows : List (List Int)} {n : Nat} (h : Cloth rows n) : Rect rows n := ⟨h.r1, h.r16, h.n1, h.n16, h.all⟩
theorem Rect.first {rows : List (List Int)} {n : Nat} (h : Rect rows n) : ∃ r0 rest, rows = r0 :: rest ∧ r0.length = n := by
  cases rows with
  | nil => exact absurd h.r1 (by decide)
  | cons r0 rest => exact ⟨r0, rest, rfl, h.all r0 List.mem_cons_self⟩
theorem v_wideR {rows : List (List Int)} {n i : Nat} {ρ : Ev} (h : Rect rows n) (hi : ρ[i]? = some (some (clD rows))) : mFn lenD (mCons (m2 (mV i) (mC (.int 0)) ixD) mNil) ρ = .ok (.int n) := by
  obtain ⟨r0, rest, rfl, hl⟩ := h.first
  refine v_fn (v_cons (v_2 (v_var hi) v_c l_ix0) v_nil) ?_
  show R.ok (D.int ((r0.map D.int).length : Nat)) = _
  rw [List.length_map, hl]
section
variable {rows : List (List Int)}
theorem row_at {k : Int} (h1 : 0 ≤ k) (h2 : k < rows.length) : ixD (clD rows) (.int k) = .ok (rowD (rows.getD k.toNat [])) := by
  have hk : k.toNat < rows.length := by omega
  refine l_ixT (atI_nn h1 ?_)
  rw [List.getElem?_map, List.getElem?_eq_getElem hk, List.getD_eq_getElem?_getD, List.getElem?_eq_getElem hk]
  rfl
theorem bit_at {r : List Int} {k : Int} (h1 : 0 ≤ k) (h2 : k < r.length) : ixD (rowD r) (.int k) = .ok (.int (r.getD k.toNat 0)) := by
  have hk : k.toNat < r.length := by omega
  refine l_ixT (atI_nn h1 ?_)
  rw [List.getElem?_map, List.getElem?_eq_getElem hk, List.getD_eq_getElem?_getD, List.getElem?_eq_getElem hk]
  rfl
end
end DL
namespace DL
open PySem PySem.Spec L2 Wv
def threadsD (wide rows : Nat) : List D := (rangeD 0 wide).map (fun d => .tup [.str "warp", d]) ++ (rangeD 0 rows).map (fun d => .tup [.str "weft", d])
theorem thr_lc {mi : Ev → R (List D)} {ρ : Ev} {x : Str} {n : Nat} (h : mi ρ = .ok (rangeD 0 n)) (hn : n ≤ 1000) : mLc mi [none] (gN 0) mYes (mTup (mCons (mC (.str x)) (mCons (mV 0) mNil))) ρ = .ok (.lst ((rangeD 0 n).map fun d => .tup [.str x, d])) :=
  v_lc h (by rw [rangeD_len]; omega) (lcD_map (ρ1 := fun d => [some d]) fun d _ => ⟨rfl, rfl, v_tup (v_cons v_c (v_cons (v_var rfl) v_nil)) (by simp)⟩)
theorem thr_len {x : Str} {n : Nat} : ((rangeD 0 n).map fun d => D.tup [.str x, d]).length = n := by rw [List.length_map, rangeD_len]
theorem d_threadsR {rows : List (List Int)} {n : Nat} (h : Rect rows n) : m_threads [clD rows] = .ok (.lst (threadsD n rows.length)) := by
  have h1 := h.n16
  have h2 := h.r16
  refine w_run (w_set (thr_lc (n := n) (v_it (v_cons (v_wideR h rfl) v_nil) (l_ran1 (by omega) (by omega))) (by omega)) (w_set (thr_lc (n := rows.length) (v_it (v_cons (v_high rfl) v_nil) (l_ran1 (by omega) (by omega))) (by omega)) (w_ret (v_2 (v_var rfl) (v_var rfl) (l_addL ?_)) rfl)))
  rw [thr_len, thr_len]
  omega
theorem d_threads {rows : List (List Int)} {n : Nat} (h : Cloth rows n) : m_threads [clD rows] = .ok (.lst (threadsD n rows.length)) := d_threadsR h.rect
end DL
namespace DL
open PySem PySem.Spec L2 Wv
abbrev lsD (W : List Int) : D := .lst (W.map D.int)
theorem fit_ls (W : List Int) : fit 1 (lsD W) = true := fit_all (fit_ints W)
theorem getD_mem {α : Type} {l : List α} {i : Nat} {d : α} (h : i < l.length) : l.getD i d ∈ l := by
  rw [List.getD_eq_getElem?_getD, List.getElem?_eq_getElem h]
  exact List.getElem_mem h
theorem lcD_mapE {A : Type} {ea : A → D} {h : A → D} {g : D → Ev → R Ev} {t : Ev → R Bool} {e : Ev → R D} {ρ : Ev} : ∀ {l : List A}, (∀ a ∈ l, ∃ ρ1, g (ea a) ρ = .ok ρ1 ∧ t ρ1 = .ok true ∧ e ρ1 = .ok (h a)) → lcD g t e ρ (l.map ea) = .ok (l.map h)
  | [], _ => rfl
  | a :: l, q => by
    obtain ⟨ρ1, h1, h2, h3⟩ := q a List.mem_cons_self
    have ih := lcD_mapE (l := l) fun x hx => q x (List.mem_cons_of_mem _ hx)
    rw [List.map_cons, lcD, h1, R.ok_bind, h2]
    show (if true = true then (nr (e ρ1)).bind fun x => (lcD g t e ρ (l.map ea)).bind fun xs => .ok (x :: xs) else lcD g t e ρ (l.map ea)) = _
    rw [if_pos rfl, h3, ih]
    rfl
theorem lcD_filterE {A : Type} {ea : A → D} {q : A → Bool} {h : A → D} {g : D → Ev → R Ev} {t : Ev → R Bool} {e : Ev → R D} {ρ : Ev} : ∀ {l : List A}, (∀ a ∈ l, ∃ ρ1, g (ea a) ρ = .ok ρ1 ∧ t ρ1 = .ok (q a) ∧ (q a = true → e ρ1 = .ok (h a))) → lcD g t e ρ (l.map ea) = .ok ((l.filter q).map h)
  | [], _ => rfl
  | a :: l, w => by
    obtain ⟨ρ1, h1, h2, h3⟩ := w a List.mem_cons_self
    have ih := lcD_filterE (l := l) fun x hx => w x (List.mem_cons_of_mem _ hx)
    rw [List.map_cons, lcD, h1, R.ok_bind, h2]
    show (if q a = true then (nr (e ρ1)).bind fun x => (lcD g t e ρ (l.map ea)).bind fun xs => .ok (x :: xs) else lcD g t e ρ (l.map ea)) = _
    cases hq : q a with
    | true =>
      rw [if_pos rfl, h3 hq, ih, List.filter_cons, hq, if_pos rfl]
      rfl
    | false => rw [if_neg Bool.false_ne_true, ih, List.filter_cons, hq, if_neg Bool.false_ne_true]
end DL
namespace DL
open PySem PySem.Spec L2 Wv
structure Cols (W : List Int) (n : Nat) : Prop where
  len : W.length = n
  all : ∀ c ∈ W, 0 ≤ c ∧ c < 3
structure Pic (P : List (List Int)) (n : Nat) : Prop extends Rect P n where
  col : ∀ r ∈ P, ∀ c ∈ r, 0 ≤ c ∧ c < 3
theorem Cloth.pic {rows : List (List Int)} {n : Nat} (h : Cloth rows n) : Pic rows n := ⟨h.rect, fun r hr c hc => by
  rcases h.bit r hr c hc with rfl | rfl <;> decide⟩
end DL
namespace DL
open PySem PySem.Spec L2
section
variable {ρ : Ev} {i j : Nat} {ks vs : List D} {d v x : D} {mk mv : Ev → R D} {k : Ev → R Fl} {P : Fl → Prop}
theorem v_dct1 (h1 : mk ρ = .ok d) (h2 : mv ρ = .ok v) (h3 : okKey d = true) : mDct1 mk mv ρ = .ok (.dct [d] [v]) := by
  unfold mDct1
  rw [h1, R.ok_bind, h2, R.ok_bind, if_pos h3]
theorem x_put (hi : ρ[i]? = some (some (.dct ks vs))) (h1 : mk ρ = .ok d) (h2 : mv ρ = .ok v) (h3 : okKey d = true) (hl : ks.length ≤ 100000) : sPut i mk mv ρ = .ok (.nx (ρ.set i (some (putD d v ks vs)))) := by
  unfold sPut
  rw [hi]
  dsimp only
  rw [h2, R.ok_bind, h1, R.ok_bind, if_pos ⟨h3, hl⟩]
theorem w_put (hi : ρ[i]? = some (some (.dct ks vs))) (h1 : mk ρ = .ok d) (h2 : mv ρ = .ok v) (h3 : okKey d = true) (hl : ks.length ≤ 100000) (h : Go (k (ρ.set i (some (putD d v ks vs)))) P) : Go (sSeq (sPut i mk mv) k ρ) P := by
  unfold sSeq
  rw [x_put hi h1 h2 h3 hl]
  exact h
theorem w_put1 (hi : ρ[i]? = some (some (.dct ks vs))) (h1 : mk ρ = .ok d) (h2 : mv ρ = .ok v) (h3 : okKey d = true) (hl : ks.length ≤ 100000) (h : P (.nx (ρ.set i (some (putD d v ks vs))))) : Go (sPut i mk mv ρ) P := ⟨_, x_put hi h1 h2 h3 hl, h⟩
theorem w_pop0 {l : List D} (hi : ρ[i]? = some (some (.lst (x :: l)))) (hl : l.length ≤ 100000) (h : Go (k ((ρ.set i (some (.lst l))).set j (some x))) P) : Go (sSeq (sPop0 j i) k ρ) P := by
  unfold sSeq sPop0
  rw [hi]
  dsimp only
  rw [if_pos hl]
  exact h
theorem w_pop {l : List D} (hi : ρ[i]? = some (some (.lst (l ++ [x])))) (h : Go (k ((ρ.set i (some (.lst l))).set j (some x))) P) : Go (sSeq (sPop j i) k ρ) P := by
  unfold sSeq sPop
  rw [hi]
  dsimp only
  rw [List.getLast?_concat, List.dropLast_concat]
  exact h
theorem l_inK {neg : Bool} (h : okKey d = true) : inK neg d (.dct ks vs) = .ok (.bl (if neg = true then !(ks.any fun y => eqvD y d) else ks.any fun y => eqvD y d)) := if_pos h
theorem l_ixK {r : D} (h : okKey d = true) (h2 : getK d ks vs = some r) : ixK (.dct ks vs) d = .ok r := by
  show (if okKey d = true then (match getK d ks vs with | some r => R.ok r | none => .bad) else .bad) = _
  rw [if_pos h, h2]
theorem eqv_nil : ∀ l : List D, eqvD (.lst l) (.lst []) = l.isEmpty
  | [] => by
    unfold eqvD
    rw [toP, toPs, PyData.eqv, PyData.eqvAll]
    rfl
  | x :: l => by
    unfold eqvD
    rw [toP, toP, toPs, toPs, PyData.eqv, PyData.eqvAll]
    rfl
theorem l_neNil {l : List D} (h : fit 8 (.lst l) = true) : neD (.lst l) (.lst []) = .ok (.bl (!l.isEmpty)) := by rw [l_ne h rfl, eqv_nil]
end
section
variable {A B : Type} [DecidableEq A] {ea : A → D} {eb : B → D}
theorem any_enc (he : ∀ x y, eqvD (ea x) (ea y) = decide (x = y)) (a : A) : ∀ l : List A, ((l.map ea).any fun y => eqvD y (ea a)) = decide (a ∈ l)
  | [] => rfl
  | x :: l => by
    rw [List.map_cons, List.any_cons, he, any_enc he a l, ← Bool.decide_or]
    refine decide_eq_decide.mpr ?_
    rw [List.mem_cons]
    exact or_congr ⟨fun e => e.symm, fun e => e.symm⟩ Iff.rfl
theorem getK_enc (he : ∀ x y, eqvD (ea x) (ea y) = decide (x = y)) (a : A) : ∀ W : List (A × B), getK (ea a) (W.map fun p => ea p.1) (W.map fun p => eb p.2) = (W.find? fun p => decide (p.1 = a)).map fun p => eb p.2
  | [] => rfl
  | p :: W => by
    rw [List.map_cons, List.map_cons, getK, he, List.find?_cons]
    cases decide (p.1 = a) with
    | true => rfl
    | false => exact getK_enc he a W
theorem find_mem {W : List (A × B)} {a : A} (h : a ∈ W.map (·.1)) : ∃ p ∈ W, p.1 = a ∧ (W.find? fun p => decide (p.1 = a)) = some p := by
  obtain ⟨q, hq, e⟩ := List.mem_map.mp h
  cases hf : W.find? fun p => decide (p.1 = a) with
  | none =>
    have := List.find?_eq_none.mp hf q hq
    rw [decide_eq_true e] at this
    exact absurd rfl this
  | some p => exact ⟨p, List.mem_of_find?_eq_some hf, by simpa using List.find?_some hf, rfl⟩
theorem put_enc {dv : D} (he : ∀ x y, eqvD (ea x) (ea y) = decide (x = y)) {a : A} {W : List (A × B)} (h : a ∉ W.map (·.1)) : putD (ea a) dv (W.map fun p => ea p.1) (W.map fun p => eb p.2) = .dct (W.map (fun p => ea p.1) ++ [ea a]) (W.map (fun p => eb p.2) ++ [dv]) := by
  unfold putD
  have e : ((W.map fun p => ea p.1).any fun y => eqvD y (ea a)) = false := by
    have := any_enc he a (W.map (·.1))
    rw [List.map_map] at this
    rw [show (W.map fun p => ea p.1) = W.map (ea ∘ fun x => x.1) from rfl, this]
    exact decide_eq_false h
  rw [e, if_neg Bool.false_ne_true]
def putT (a : A) (b : B) (W : List (A × B)) : List (A × B) := if a ∈ W.map (·.1) then W.map fun p => if p.1 = a then (p.1, b) else p else W ++ [(a, b)]
theorem setV_enc (he : ∀ x y, eqvD (ea x) (ea y) = decide (x = y)) (a : A) (b : B) : ∀ W : List (A × B), setV (ea a) (eb b) (W.map fun p => ea p.1) (W.map fun p => eb p.2) = (W.map fun p => if p.1 = a then (p.1, b) else p).map fun p => eb p.2
  | [] => rfl
  | p :: W => by
    rw [List.map_cons, List.map_cons, setV, he, List.map_cons, List.map_cons, setV_enc he a b W]
    by_cases e : p.1 = a
    · rw [decide_eq_true e, if_pos rfl, if_pos e]
    · rw [decide_eq_false e, if_neg Bool.false_ne_true, if_neg e]
theorem putT_enc (he : ∀ x y, eqvD (ea x) (ea y) = decide (x = y)) (a : A) (b : B) (W : List (A × B)) : putD (ea a) (eb b) (W.map fun p => ea p.1) (W.map fun p => eb p.2) = .dct ((putT a b W).map fun p => ea p.1) ((putT a b W).map fun p => eb p.2) := by
  by_cases h : a ∈ W.map (·.1)
  · have e : ((W.map fun p => ea p.1).any fun y => eqvD y (ea a)) = true := by
      have := any_enc he a (W.map (·.1))
      rw [List.map_map] at this
      rw [show (W.map fun p => ea p.1) = W.map (ea ∘ fun x => x.1) from rfl, this]
      exact decide_eq_true h
    unfold putD putT
    rw [e, if_pos rfl, if_pos h, setV_enc he]
    congr 1
    rw [List.map_map]
    refine List.map_congr_left fun p _ => ?_
    show ea p.1 = ea (if p.1 = a then (p.1, b) else p).1
    split <;> rfl
  · rw [put_enc he h]
    unfold putT
    rw [if_neg h, List.map_append, List.map_append]
    rfl
theorem find_putT (a a' : A) (b : B) (W : List (A × B)) : ((putT a b W).find? fun p => decide (p.1 = a')).map (·.2) = if a' = a then some b else (W.find? fun p => decide (p.1 = a')).map (·.2) := by
  unfold putT
  by_cases h : a ∈ W.map (·.1)
  · rw [if_pos h]
    by_cases e : a' = a
    · rw [if_pos e]
      subst e
      obtain ⟨p, hp, e1, e2⟩ := find_mem h
      clear h hp
      induction W with
      | nil => cases e2
      | cons q W ih =>
        rw [List.map_cons, List.find?_cons]
        by_cases c : q.1 = a'
        · rw [if_pos c, decide_eq_true c]
          rfl
        · rw [if_neg c, decide_eq_false c]
          rw [List.find?_cons, decide_eq_false c] at e2
          exact ih e2
    · rw [if_neg e]
      clear h
      induction W with
      | nil => rfl
      | cons q W ih =>
        rw [List.map_cons, List.find?_cons, List.find?_cons]
        by_cases c : q.1 = a
        · rw [if_pos c]
          have c' : ¬ q.1 = a' := fun z => e (z.symm.trans c)
          rw [decide_eq_false c']
          exact ih
        · rw [if_neg c]
          cases decide (q.1 = a') with
          | true => rfl
          | false => exact ih
  · rw [if_neg h, List.find?_append]
    by_cases e : a' = a
    · rw [if_pos e]
      subst e
      have : (W.find? fun p => decide (p.1 = a')) = none := by
        rw [List.find?_eq_none]
        intro p hp z
        exact h (List.mem_map.mpr ⟨p, hp, by simpa using z⟩)
      rw [this, Option.none_or, List.find?_cons, decide_eq_true rfl]
      rfl
    · rw [if_neg e, List.find?_cons, decide_eq_false fun z => e z.symm]
      cases W.find? fun p => decide (p.1 = a') with
      | none => rfl
      | some p => rfl
theorem len_putT (a : A) (b : B) (W : List (A × B)) : (putT a b W).length ≤ W.length + 1 := by
  unfold putT
  split
  · rw [List.length_map]
    omega
  · rw [List.length_append]
    exact Nat.le_refl _
end
theorem nodup_len {A : Type} [DecidableEq A] : ∀ {l m : List A}, l.Nodup → (∀ x ∈ l, x ∈ m) → l.length ≤ m.length
  | [], _, _, _ => Nat.zero_le _
  | x :: l, m, hn, hs => by
    rw [List.nodup_cons] at hn
    have hx := hs x List.mem_cons_self
    have ih := nodup_len (l := l) (m := m.erase x) hn.2 fun y hy => (List.mem_erase_of_ne (fun e => hn.1 (by rw [← e]; exact hy))).mpr (hs y (List.mem_cons_of_mem _ hy))
    rw [List.length_erase_of_mem hx] at ih
    have : 0 < m.length := List.length_pos_of_mem hx
    rw [List.length_cons]
    omega
end DL
namespace DL
open PySem PySem.Spec L2 Wv
abbrev Th := Bool × Nat
abbrev Stp := Th × Int
def nmE (b : Bool) : Str := if b = true then "weft" else "warp"
def thE (t : Th) : D := .tup [.str (nmE t.1), .int (t.2 : Nat)]
def stE (s : Stp) : D := .tup [thE s.1, .int s.2]
theorem nm_inj {a b : Bool} (h : nmE a = nmE b) : a = b := by
  have n1 : ¬ (("weft" : Str) = "warp") := by decide +kernel
  have n2 : ¬ (("warp" : Str) = "weft") := by decide +kernel
  cases a <;> cases b <;> first | rfl | exact absurd h n1 | exact absurd h n2
theorem nm_ok (b : Bool) : PyData.strOk (nmE b) = true := by cases b <;> decide +kernel
theorem toP_th (t : Th) : toP (thE t) = .tuple [.str (nmE t.1), .int (t.2 : Nat)] := by
  unfold thE
  rw [toP, toPs, toPs, toPs, toP, toP]
theorem toP_st (s : Stp) : toP (stE s) = .tuple [toP (thE s.1), .int s.2] := by
  unfold stE
  rw [toP, toPs, toPs, toPs, toP]
theorem th_inj {a b : Th} (h : toP (thE a) = toP (thE b)) : a = b := by
  rw [toP_th, toP_th] at h
  obtain ⟨h1, h2⟩ := List.cons.inj (PyData.tuple.inj h)
  have h3 := nm_inj (PyData.str.inj h1)
  have h4 := PyData.int.inj (List.cons.inj h2).1
  exact Prod.ext h3 (by omega)
theorem st_inj {a b : Stp} (h : toP (stE a) = toP (stE b)) : a = b := by
  rw [toP_st, toP_st] at h
  obtain ⟨h1, h2⟩ := List.cons.inj (PyData.tuple.inj h)
  exact Prod.ext (th_inj h1) (PyData.int.inj (List.cons.inj h2).1)
theorem key_th (t : Th) : keyD (toP (thE t)) = true := by
  rw [toP_th, keyD, keyDs, keyDs, keyDs, keyD, keyD, nm_ok]
  rfl
theorem ok_th (t : Th) : okKey (thE t) = true := by
  have h := key_th t
  show (keyDs (toPs [.str (nmE t.1), .int (t.2 : Nat)]) && decide (PyData.depthAll (toPs [.str (nmE t.1), .int (t.2 : Nat)]) ≤ 7)) = true
  rw [toP_th, keyD] at h
  rw [toPs, toPs, toPs, toP, toP, h]
  rfl
theorem ok_st (s : Stp) : okKey (stE s) = true := by
  have h := key_th s.1
  show (keyDs (toPs [thE s.1, .int s.2]) && decide (PyData.depthAll (toPs [thE s.1, .int s.2]) ≤ 7)) = true
  rw [toPs, toPs, toPs, toP, keyDs, keyDs, keyDs, keyD, h, toP_th]
  rfl
theorem eqv_th (a b : Th) : eqvD (thE a) (thE b) = decide (a = b) := by
  rw [eqv_ok (ok_th a) (ok_th b)]
  exact decide_eq_decide.mpr ⟨th_inj, fun e => by rw [e]⟩
theorem eqv_st (a b : Stp) : eqvD (stE a) (stE b) = decide (a = b) := by
  rw [eqv_ok (ok_st a) (ok_st b)]
  exact decide_eq_decide.mpr ⟨st_inj, fun e => by rw [e]⟩
theorem fit_th (t : Th) : fit 1 (thE t) = true := by
  show (fit 0 (.str (nmE t.1)) && (fit 0 (.int _) && true)) = true
  rw [show fit 0 (.str (nmE t.1)) = true from nm_ok t.1]
  rfl
theorem fit_st (s : Stp) : fit 2 (stE s) = true := by
  show (fit 1 (thE s.1) && (fit 1 (.int _) && true)) = true
  rw [fit_th]
  rfl
theorem l_eqS' (x y : Bool) : eqD (.str (nmE x)) (.str (nmE y)) = .ok (.bl (decide (x = y))) := by
  rw [l_eq (show fit 8 (.str (nmE x)) = true from nm_ok x) (show fit 8 (.str (nmE y)) = true from nm_ok y)]
  have e : eqvD (.str (nmE x)) (.str (nmE y)) = decide (x = y) := by
    unfold eqvD
    rw [toP, toP, PyData.eqv]
    cases x <;> cases y <;> decide +kernel
  rw [e]
theorem ix_0 {a : D} {l : List D} : ixD (.tup (a :: l)) (.int 0) = .ok a := l_ix0
theorem ix_1 {a b : D} {l : List D} : ixD (.tup (a :: b :: l)) (.int 1) = .ok b := l_ixT (atI_nat (j := 1) rfl)
theorem numb_range {A : Type} (l : List A) (ea : A → D) (a : A) : numbD (l.map ea) = (List.range l.length).map fun i => D.tup [.int (i : Nat), ea (l.getD i a)] := by
  refine List.ext_getElem? fun i => ?_
  unfold numbD
  rw [List.getElem?_mapIdx, List.getElem?_map, List.getElem?_map]
  rcases Nat.lt_or_ge i l.length with q | q
  · rw [List.getElem?_eq_getElem q, List.getElem?_eq_getElem (by rw [List.length_range]; exact q), List.getElem_range]
    show some (D.tup [.int (i : Nat), ea l[i]]) = some (D.tup [.int (i : Nat), ea (l.getD i a)])
    rw [List.getD_eq_getElem?_getD, List.getElem?_eq_getElem q]
    rfl
  · rw [List.getElem?_eq_none q, List.getElem?_eq_none (by rw [List.length_range]; exact q)]
    rfl
def ths (n m : Nat) : List Th := (List.range n).map (fun k => (false, k)) ++ (List.range m).map fun k => (true, k)
theorem ths_is (n m : Nat) : threadsD n m = (ths n m).map thE := by
  unfold threadsD ths rangeD
  rw [List.map_append, List.map_map, List.map_map, List.map_map, List.map_map]
  refine congr (congrArg _ (List.map_congr_left fun k _ => ?_)) (List.map_congr_left fun k _ => ?_)
  · show D.tup [.str "warp", .int (0 + (k : Int))] = D.tup [.str "warp", .int (k : Int)]
    rw [Int.zero_add]
  · show D.tup [.str "weft", .int (0 + (k : Int))] = D.tup [.str "weft", .int (k : Int)]
    rw [Int.zero_add]
theorem mem_ths {n m : Nat} {t : Th} : t ∈ ths n m ↔ (t.1 = false ∧ t.2 < n) ∨ (t.1 = true ∧ t.2 < m) := by
  unfold ths
  rw [List.mem_append, List.mem_map, List.mem_map]
  constructor
  · rintro (⟨k, hk, rfl⟩ | ⟨k, hk, rfl⟩)
    · exact .inl ⟨rfl, List.mem_range.mp hk⟩
    · exact .inr ⟨rfl, List.mem_range.mp hk⟩
  · obtain ⟨b, k⟩ := t
    rintro (⟨h1, h2⟩ | ⟨h1, h2⟩)
    · exact .inl ⟨k, List.mem_range.mpr h2, by rw [← h1]⟩
    · exact .inr ⟨k, List.mem_range.mpr h2, by rw [← h1]⟩
theorem in_T {B : Type} {eb : B → D} {neg : Bool} (t : Th) (T : List (Th × B)) : inK neg (thE t) (.dct (T.map fun p => thE p.1) (T.map fun p => eb p.2)) = .ok (.bl (if neg = true then !decide (t ∈ T.map (·.1)) else decide (t ∈ T.map (·.1)))) := by
  rw [l_inK (ok_th t)]
  have e := any_enc eqv_th t (T.map (·.1))
  rw [List.map_map] at e
  rw [show (T.map fun p => thE p.1) = T.map (thE ∘ fun x => x.1) from rfl, e]
  exact congrArg (fun b => R.ok (D.bl b)) (by cases neg <;> simp)
end DL
namespace DL
section
variable {A B : Type}
inductive Rch (V : List A) (G : A → A → Bool) (t : A) : A → Prop
  | one : Rch V G t t
  | next {a b : A} : Rch V G t a → b ∈ V → G b a = true → Rch V G t b
theorem Rch.trans {V : List A} {G : A → A → Bool} {a b c : A} (h1 : Rch V G a b) (h2 : Rch V G b c) : Rch V G a c := by
  induction h2 with
  | one => exact h1
  | next _ hb hg ih => exact .next ih hb hg
theorem Rch.mem {V : List A} {G : A → A → Bool} {a b : A} (ha : a ∈ V) (h : Rch V G a b) : b ∈ V := by
  cases h with
  | one => exact ha
  | next _ hb _ => exact hb
theorem rch_iff {V : List A} {G : A → A → Bool} {t : A} {W : List A} (h0 : t ∈ W) (h1 : ∀ s ∈ W, Rch V G t s) (h2 : ∀ s ∈ W, ∀ b ∈ V, G b s = true → b ∈ W) (o : A) : o ∈ W ↔ Rch V G t o := by
  refine ⟨h1 o, fun h => ?_⟩
  induction h with
  | one => exact h0
  | next _ hb hg ih => exact h2 _ ih _ hb hg
open Classical in
noncomputable def lft (V : List A) (G : A → A → Bool) (t : A) : List A := V.filter fun o => decide (Rch V G t o)
theorem mem_lft {V : List A} {G : A → A → Bool} {t o : A} : o ∈ lft V G t ↔ o ∈ V ∧ Rch V G t o := by
  unfold lft
  rw [List.mem_filter]
  simp
theorem lft_eq {V : List A} {G : A → A → Bool} {a b : A} (ha : a ∈ V) (hb : b ∈ V) : lft V G a = lft V G b ↔ Rch V G a b ∧ Rch V G b a := by
  constructor
  · intro h
    have h1 : b ∈ lft V G a := by
      rw [h]
      exact mem_lft.mpr ⟨hb, .one⟩
    have h2 : a ∈ lft V G b := by
      rw [← h]
      exact mem_lft.mpr ⟨ha, .one⟩
    exact ⟨(mem_lft.mp h1).2, (mem_lft.mp h2).2⟩
  · rintro ⟨h1, h2⟩
    unfold lft
    refine List.filter_congr fun o _ => ?_
    exact decide_eq_decide.mpr ⟨fun z => h2.trans z, fun z => h1.trans z⟩
theorem lft_filter {V : List A} {G : A → A → Bool} {t : A} {q : A → Bool} (h : ∀ o, q o = true ↔ Rch V G t o) : lft V G t = V.filter q := by
  unfold lft
  refine List.filter_congr fun o _ => ?_
  by_cases z : Rch V G t o
  · rw [(h o).mpr z]
    exact @decide_eq_true _ (Classical.propDecidable _) z
  · have : q o = false := by
      cases hq : q o with
      | false => rfl
      | true => exact absurd ((h o).mp hq) z
    rw [this]
    exact @decide_eq_false _ (Classical.propDecidable _) z
structure Iso (V : List A) (G : A → A → Bool) (V' : List B) (G' : B → B → Bool) (φ : A → B) : Prop where
  into : ∀ a ∈ V, φ a ∈ V'
  onto : ∀ b ∈ V', ∃ a ∈ V, φ a = b
  inj : ∀ a ∈ V, ∀ b ∈ V, φ a = φ b → a = b
  edge : ∀ a ∈ V, ∀ b ∈ V, G' (φ a) (φ b) = G a b
section
variable {V : List A} {G : A → A → Bool} {V' : List B} {G' : B → B → Bool} {φ : A → B}
theorem Iso.rch (h : Iso V G V' G' φ) {a b : A} (ha : a ∈ V) (hb : b ∈ V) : Rch V' G' (φ a) (φ b) ↔ Rch V G a b := by
  constructor
  · intro q
    have : ∀ y, Rch V' G' (φ a) y → ∃ c ∈ V, φ c = y ∧ Rch V G a c := fun y hy => by
      induction hy with
      | one => exact ⟨a, ha, rfl, .one⟩
      | next _ hb hg ih =>
        obtain ⟨c, hc, rfl, hr⟩ := ih
        obtain ⟨d, hd, rfl⟩ := h.onto _ hb
        exact ⟨d, hd, rfl, .next hr hd (by rw [← h.edge d hd c hc]; exact hg)⟩
    obtain ⟨c, hc, e, hr⟩ := this _ q
    rw [← h.inj c hc b hb e]
    exact hr
  · intro q
    induction q with
    | one => exact .one
    | next hr hb hg ih => exact .next (ih (hr.mem ha)) (h.into _ hb) (by rw [h.edge _ hb _ (hr.mem ha)]; exact hg)
theorem Iso.lft (h : Iso V G V' G' φ) {a b : A} (ha : a ∈ V) (hb : b ∈ V) : DL.lft V' G' (φ a) = DL.lft V' G' (φ b) ↔ DL.lft V G a = DL.lft V G b := by
  rw [lft_eq (h.into a ha) (h.into b hb), lft_eq ha hb, h.rch ha hb, h.rch hb ha]
theorem nodup_map {V : List A} {φ : A → B} (hn : V.Nodup) (hi : ∀ a ∈ V, ∀ b ∈ V, φ a = φ b → a = b) : (V.map φ).Nodup := by
  induction V with
  | nil => exact List.nodup_nil
  | cons x l ih =>
    rw [List.nodup_cons] at hn
    rw [List.map_cons, List.nodup_cons]
    refine ⟨fun z => ?_, ih hn.2 fun a ha b hb => hi a (List.mem_cons_of_mem _ ha) b (List.mem_cons_of_mem _ hb)⟩
    obtain ⟨y, hy, e⟩ := List.mem_map.mp z
    exact hn.1 (hi y (List.mem_cons_of_mem _ hy) x List.mem_cons_self e ▸ hy)
theorem Iso.perm (h : Iso V G V' G' φ) (n1 : V.Nodup) (n2 : V'.Nodup) : (V.map φ).Perm V' := by
  refine (List.perm_ext_iff_of_nodup (nodup_map n1 h.inj) n2).mpr fun b => ?_
  rw [List.mem_map]
  exact ⟨fun ⟨a, ha, e⟩ => e ▸ h.into a ha, fun hb => h.onto b hb⟩
end
structure Cls {K : Type} (f : A → K) (V : List A) (ks : List K) : Prop where
  nd : ks.Nodup
  mem : ∀ k, k ∈ ks ↔ ∃ a ∈ V, f a = k
def clsL {K : Type} [DecidableEq K] (f : A → K) : List A → List K → List K
  | [], acc => acc
  | a :: l, acc => clsL f l (if f a ∈ acc then acc else acc ++ [f a])
theorem clsL_ok {K : Type} [DecidableEq K] (f : A → K) : ∀ (l : List A) (acc : List K), acc.Nodup → (clsL f l acc).Nodup ∧ ∀ k, k ∈ clsL f l acc ↔ k ∈ acc ∨ ∃ a ∈ l, f a = k
  | [], acc, h => ⟨h, fun k => by rw [clsL]; exact ⟨.inl, fun z => z.elim id fun ⟨a, ha, _⟩ => nomatch ha⟩⟩
  | a :: l, acc, h => by
    rw [clsL]
    by_cases q : f a ∈ acc
    · rw [if_pos q]
      obtain ⟨h1, h2⟩ := clsL_ok f l acc h
      refine ⟨h1, fun k => ?_⟩
      rw [h2]
      constructor
      · rintro (z | ⟨b, hb, e⟩)
        · exact .inl z
        · exact .inr ⟨b, List.mem_cons_of_mem _ hb, e⟩
      · rintro (z | ⟨b, hb, e⟩)
        · exact .inl z
        · rcases List.mem_cons.mp hb with rfl | hb
          · exact .inl (e ▸ q)
          · exact .inr ⟨b, hb, e⟩
    · rw [if_neg q]
      obtain ⟨h1, h2⟩ := clsL_ok f l (acc ++ [f a]) (by
        rw [List.nodup_append]
        refine ⟨h, by simp, fun x hx y hy e => ?_⟩
        rw [List.mem_singleton.mp hy] at e
        exact q (e ▸ hx))
      refine ⟨h1, fun k => ?_⟩
      rw [h2, List.mem_append, List.mem_singleton]
      constructor
      · rintro ((z | z) | ⟨b, hb, e⟩)
        · exact .inl z
        · exact .inr ⟨a, List.mem_cons_self, z.symm⟩
        · exact .inr ⟨b, List.mem_cons_of_mem _ hb, e⟩
      · rintro (z | ⟨b, hb, e⟩)
        · exact .inl (.inl z)
        · rcases List.mem_cons.mp hb with rfl | hb
          · exact .inl (.inr e.symm)
          · exact .inr ⟨b, hb, e⟩
theorem clsL_cls {K : Type} [DecidableEq K] (f : A → K) (V : List A) : Cls f V (clsL f V []) := by
  obtain ⟨h1, h2⟩ := clsL_ok f V [] List.nodup_nil
  exact ⟨h1, fun k => by rw [h2]; simp⟩
end
end DL
namespace DL
open PySem PySem.Spec L2 Wv
end DL
namespace DL
open PySem PySem.Spec L2 Wv
def cel (rows : List (List Int)) (r c : Nat) : Int := (rows.getD r []).getD c 0
def ovr (rows : List (List Int)) (a b : Th) : Bool := !decide (a.1 = b.1) && (if a.1 = true then decide (cel rows a.2 b.2 = 0) else decide (cel rows b.2 a.2 = 1))
noncomputable def lf (rows : List (List Int)) (n : Nat) (t : Th) : List Th := lft (ths n rows.length) (ovr rows) t
theorem l_neS' (x y : Bool) : neD (.str (nmE x)) (.str (nmE y)) = .ok (.bl (!decide (x = y))) := by
  rw [l_ne (show fit 8 (.str (nmE x)) = true from nm_ok x) (show fit 8 (.str (nmE y)) = true from nm_ok y)]
  have e : eqvD (.str (nmE x)) (.str (nmE y)) = decide (x = y) := by
    unfold eqvD
    rw [toP, toP, PyData.eqv]
    cases x <;> cases y <;> decide +kernel
  rw [e]
theorem ths_len (n m : Nat) : (ths n m).length = n + m := by
  unfold ths
  rw [List.length_append, List.length_map, List.length_map, List.length_range, List.length_range]
section
variable {rows : List (List Int)} {n : Nat}
theorem d_ths (hR : Rect rows n) : m_threads [clD rows] = .ok (.lst ((ths n rows.length).map thE)) := by rw [d_threadsR hR, ths_is]
theorem d_isth (hR : Rect rows n) {t : Th} (ht : t ∈ ths n rows.length) : m_is_thread [clD rows, thE t] = .ok (.bl true) := by
  obtain ⟨b, k⟩ := t
  rw [mem_ths] at ht
  refine w_run (w_if (b := false) (v_eqT (v_tor (b := false) (c := false) (v_eqT (v_tn (v_tru (v_inst (v_var rfl) rfl) rfl)) rfl) (fun _ => v_eqT (v_tor (b := false) (c := false) (v_tst (v_2 (v_fn (v_cons (v_var rfl) v_nil) rfl) v_c (l_neI _ _))) (fun _ => v_eqT (v_tn (v_tru (v_inst (v_2 (v_var rfl) v_c ix_0) rfl) rfl)) rfl)) rfl)) rfl) (fun z => by cases z) (fun _ => w_nil ?_))
  cases b with
  | false =>
    have hk : k < n := by simpa using ht
    refine w_if (b := true) (v_tst (v_eq (v_2 (v_2 (v_var rfl) v_c ix_0) v_c (l_eqS' false false)) rfl)) (fun _ => w_seqret (v_fn (v_cons (v_2 (v_var rfl) v_c ix_1) (v_cons (v_wideR hR rfl) v_nil)) (d_number (by simp [tyS]))) ?_) fun z => nomatch z
    show Fl.rt (D.bl (decide (0 ≤ (k : Int)) && decide ((k : Int) < n))) = _
    rw [decide_eq_true (by omega), decide_eq_true (by omega)]
    rfl
  | true =>
    have hk : k < rows.length := by simpa using ht
    refine w_if (b := false) (v_tst (v_eq (v_2 (v_2 (v_var rfl) v_c ix_0) v_c (l_eqS' true false)) rfl)) (fun z => nomatch z) fun _ => w_nil (w_ret (v_and_t (v_eq (v_2 (v_2 (v_var rfl) v_c ix_0) v_c (l_eqS' true true)) rfl) (v_fn (v_cons (v_2 (v_var rfl) v_c ix_1) (v_cons (v_high rfl) v_nil)) (d_number (by simp [tyS])))) ?_)
    show Fl.rt (D.bl (decide (0 ≤ (k : Int)) && decide ((k : Int) < rows.length))) = _
    rw [decide_eq_true (by omega), decide_eq_true (by omega)]
    rfl
theorem d_chkth (hR : Rect rows n) {t : Th} (ht : t ∈ ths n rows.length) : m_checked_thread [clD rows, thE t] = .ok (thE t) :=
  w_run (w_if (b := false) (v_eqT (v_tn (v_tru (v_fn (v_cons (v_var rfl) (v_cons (v_var rfl) v_nil)) (d_isth hR ht)) rfl)) rfl) (fun z => by cases z) (fun _ => w_nil (w_ret (v_var rfl) rfl)))
theorem cel_ix (hR : Rect rows n) {r c : Nat} (hr : r < rows.length) (hc : c < n) : ixD (clD rows) (.int (r : Nat)) = .ok (rowD (rows.getD r [])) ∧ ixD (rowD (rows.getD r [])) (.int (c : Nat)) = .ok (.int (cel rows r c)) := by
  have q1 := row_at (rows := rows) (k := (r : Nat)) (by omega) (by omega)
  rw [Int.toNat_natCast] at q1
  have q2 := bit_at (r := rows.getD r []) (k := (c : Nat)) (by omega) (by rw [hR.all _ (getD_mem hr)]; omega)
  rw [Int.toNat_natCast] at q2
  exact ⟨q1, q2⟩
theorem d_aboveE (hR : Rect rows n) {a b : Th} (ha : a ∈ ths n rows.length) (hb : b ∈ ths n rows.length) (h : a.1 ≠ b.1) : m_above [clD rows, thE a, thE b] = .ok (.bl (ovr rows a b)) := by
  obtain ⟨x, k⟩ := a
  obtain ⟨y, j⟩ := b
  rw [mem_ths] at ha hb
  cases x with
  | false =>
    have hy : y = true := by cases y <;> simp_all
    subst hy
    have hk : k < n := by simpa using ha
    have hj : j < rows.length := by simpa using hb
    obtain ⟨q1, q2⟩ := cel_ix hR hj hk
    refine w_run (w_if (b := true) (v_tst (v_eq (v_2 (v_2 (v_var rfl) v_c ix_0) v_c (l_eqS' false false)) rfl)) (fun _ => w_seqret (v_2 (v_2 (v_2 (v_var rfl) (v_2 (v_var rfl) v_c ix_1) q1) (v_2 (v_var rfl) v_c ix_1) q2) v_c (l_eqI _ _)) ?_) fun z => nomatch z)
    rfl
  | true =>
    have hy : y = false := by cases y <;> simp_all
    subst hy
    have hk : k < rows.length := by simpa using ha
    have hj : j < n := by simpa using hb
    obtain ⟨q1, q2⟩ := cel_ix hR hk hj
    refine w_run (w_if (b := false) (v_tst (v_eq (v_2 (v_2 (v_var rfl) v_c ix_0) v_c (l_eqS' true false)) rfl)) (fun z => nomatch z) fun _ => w_nil (w_ret (v_2 (v_2 (v_2 (v_var rfl) (v_2 (v_var rfl) v_c ix_1) q1) (v_2 (v_var rfl) v_c ix_1) q2) v_c (l_eqI _ _)) ?_))
    rfl
theorem d_lying (hR : Rect rows n) {t : Th} (ht : t ∈ ths n rows.length) : m_lying_above [clD rows, thE t] = .ok (.lst (((ths n rows.length).filter fun o => ovr rows o t).map thE)) := by
  have h1 := hR.n16
  have h2 := hR.r16
  refine w_run (w_ret (v_lc (v_items (v_fn (v_cons (v_var rfl) v_nil) (d_ths hR)) rfl) (by rw [List.length_map, ths_len]; omega) (lcD_filterE (h := thE) (q := fun o => ovr rows o t) fun o ho => ⟨_, rfl, ?_, fun _ => v_var rfl⟩)) rfl)
  by_cases e : o.1 = t.1
  · refine v_eqT (v_tand (b := false) (c := false) (v_tst (v_eq (v_2 (v_2 (v_var rfl) v_c ix_0) (v_2 (v_var rfl) v_c ix_0) (l_neS' _ _)) (by rw [decide_eq_true e]; rfl))) fun z => nomatch z) ?_
    unfold ovr
    rw [decide_eq_true e]
    rfl
  · exact v_eqT (v_tand (b := true) (v_tst (v_eq (v_2 (v_2 (v_var rfl) v_c ix_0) (v_2 (v_var rfl) v_c ix_0) (l_neS' _ _)) (by rw [decide_eq_false e]; rfl))) fun _ => v_tru (v_fn (v_cons (v_var rfl) (v_cons (v_var rfl) (v_cons (v_var rfl) v_nil))) (d_aboveE hR ho ht e)) rfl) (Bool.true_and _)
theorem any_th (t : Th) (W : List Th) : ((W.map thE).any fun y => eqvD y (thE t)) = decide (t ∈ W) := (any_enc eqv_th t W).trans (decide_eq_decide.mpr Iff.rfl)
def liE (W : List Th) : D := .dct (W.map thE) (W.map fun _ => .bl true)
theorem in_li {neg : Bool} (t : Th) (W : List Th) : inK neg (thE t) (liE W) = .ok (.bl (if neg = true then !decide (t ∈ W) else decide (t ∈ W))) := by
  unfold liE
  rw [l_inK (ok_th t), any_th t W]
theorem put_li {a : Th} {W : List Th} (h : a ∉ W) : putD (thE a) (.bl true) (W.map thE) (W.map fun _ => .bl true) = liE (W ++ [a]) := by
  unfold putD liE
  rw [any_th a W, decide_eq_false h, if_neg Bool.false_ne_true, List.map_append, List.map_append]
  rfl
theorem fit_ths (l : List Th) : fit 8 (.lst (l.map thE)) = true := by
  show (l.map thE).all (fit 7) = true
  rw [List.all_map, List.all_eq_true]
  intro s _
  exact fit_mono (fit_th s) (by decide)
structure Lf (rows : List (List Int)) (n : Nat) (t : Th) (Q W : List Th) : Prop where
  nd : W.Nodup
  rch : ∀ s ∈ W, Rch (ths n rows.length) (ovr rows) t s
  inV : ∀ s ∈ W, s ∈ ths n rows.length
  sub : ∀ s ∈ Q, s ∈ W
  cl : ∀ s ∈ W, s ∈ Q ∨ ∀ b ∈ ths n rows.length, ovr rows b s = true → b ∈ W
  fst : t ∈ W
  len : Q.length ≤ W.length
theorem Lf.few (hR : Rect rows n) {t : Th} {Q W : List Th} (h : Lf rows n t Q W) : W.length ≤ 32 := by
  have r16 := hR.r16
  have n16 := hR.n16
  have q := nodup_len (m := ths n rows.length) h.nd h.inV
  rw [ths_len] at q
  omega
def muL (ρ : Ev) : Nat := match ρ[2]?, ρ[3]? with
  | some (some (D.dct ks _)), some (some (D.lst q)) => 100 + q.length - ks.length
  | _, _ => 0
theorem d_lifts (hR : Rect rows n) {t : Th} (ht : t ∈ ths n rows.length) : m_lifts_with [clD rows, thE t] = .ok (.lst ((lf rows n t).map thE)) := by
  have h1 := hR.n16
  have h2 := hR.r16
  refine w_run (w_expr (v_fn (v_cons (v_var rfl) (v_cons (v_var rfl) v_nil)) (d_chkth hR ht)) (w_set (v_dct1 (v_var rfl) v_c (ok_th t)) (w_set (v_lst (v_cons (v_var rfl) v_nil) (Nat.le_of_ble_eq_true rfl)) ?_)))
  refine w_while (fun ρ => ∃ Q W v4 v5, ρ = [some (clD rows), some (thE t), some (liE W), some (.lst (Q.map thE)), v4, v5] ∧ Lf rows n t Q W) muL
    ⟨[t], [t], none, none, rfl, ⟨by simp, fun s hs => ?_, fun s hs => ?_, (fun s hs => hs), (fun s hs => .inl hs), by simp, Nat.le_refl _⟩⟩ (show 100 < 1000 by decide) ?_
  · rw [List.mem_singleton.mp hs]
    exact .one
  · rw [List.mem_singleton.mp hs]
    exact ht
  · rintro ρ ⟨Q, W, v4, v5, rfl, hW⟩
    have few := hW.few hR
    have hlen := hW.len
    refine ⟨!(Q.map thE).isEmpty, v_tst (v_2 (v_var rfl) (v_lst v_nil (Nat.le_of_ble_eq_true rfl)) (l_neNil (fit_ths Q))), fun hb => ?_, fun hb => ?_⟩
    · rcases List.eq_nil_or_concat Q with rfl | ⟨Q0, s, rfl⟩
      · cases hb
      · rw [List.concat_eq_append] at *
        have hsW : s ∈ W := hW.sub s (by simp)
        have hsV := hW.inV s hsW
        rw [List.length_append, List.length_singleton] at hlen
        refine w_pop (x := thE s) (l := Q0.map thE) (by show some (some (D.lst ((Q0 ++ [s]).map thE))) = _; rw [List.map_append]; rfl) ?_
        refine w_for1 (ds := ((ths n rows.length).filter fun o => ovr rows o s).map thE) (fun j ρ => ∃ Q' W' v5, ρ = [some (clD rows), some (thE t), some (liE W'), some (.lst (Q'.map thE)), some (thE s), v5] ∧ Lf rows n t (s :: Q') W' ∧ Q'.length + 1 + W.length ≤ W'.length + (Q0.length + 1) ∧ ∀ a ∈ ((ths n rows.length).filter fun o => ovr rows o s).take j, a ∈ W')
          (v_items (v_fn (v_cons (v_var rfl) (v_cons (v_var rfl) v_nil)) (d_lying hR hsV)) rfl) ⟨Q0, W, _, rfl, ⟨hW.nd, hW.rch, hW.inV, fun a ha => hW.sub a ?_, fun a ha => (hW.cl a ha).imp (fun q => ?_) id, hW.fst, by rw [List.length_cons]; exact hlen⟩, by omega, fun a ha => by rw [List.take_zero] at ha; cases ha⟩ ?_ ?_
        · rcases List.mem_cons.mp ha with rfl | ha
          · simp
          · simp [ha]
        · rcases List.mem_append.mp q with q | q
          · exact List.mem_cons_of_mem _ q
          · rw [List.mem_singleton.mp q]
            exact List.mem_cons_self
        · rintro j d ρ hd ⟨Q', W', v5, rfl, hW', hl', hj⟩
          rw [List.getElem?_map] at hd
          cases hq : ((ths n rows.length).filter fun o => ovr rows o s)[j]? with
          | none =>
            rw [hq] at hd
            cases hd
          | some a =>
            rw [hq] at hd
            cases hd
            have ha : a ∈ (ths n rows.length).filter fun o => ovr rows o s := List.mem_of_getElem? hq
            obtain ⟨haV, hao⟩ := List.mem_filter.mp ha
            have few' := hW'.few hR
            have len' := hW'.len
            rw [List.length_cons] at len'
            have tk : ∀ {b}, b ∈ ((ths n rows.length).filter fun o => ovr rows o s).take (j + 1) → b ∈ ((ths n rows.length).filter fun o => ovr rows o s).take j ∨ b = a := fun {b} hb => by
              rw [List.take_succ, hq] at hb
              rcases List.mem_append.mp hb with h | h
              · exact .inl h
              · exact .inr (by simpa using h)
            refine ⟨_, rfl, w_if1 (v_tst (v_2 (v_var rfl) (v_var rfl) (in_li a W'))) (fun hn => ?_) (fun hn => ?_)⟩
            · have hn : a ∉ W' := by
                rw [if_pos rfl] at hn
                simpa using hn
              refine w_put (ks := W'.map thE) (vs := W'.map fun _ => .bl true) (d := thE a) (v := .bl true) rfl (v_var rfl) v_c (ok_th a) (by rw [List.length_map]; omega) ?_
              rw [put_li hn]
              refine w_app1 (ds := Q'.map thE) rfl (v_var rfl) (by rw [List.length_map]; omega) ⟨_, .inl rfl, Q' ++ [a], W' ++ [a], some (thE a), ?_, ⟨?_, fun b hb => ?_, fun b hb => ?_, fun b hb => ?_, fun b hb => ?_, List.mem_append_left _ hW'.fst, ?_⟩, ?_, fun b hb => ?_⟩
              · show _ = [some (clD rows), some (thE t), some (liE (W' ++ [a])), some (.lst ((Q' ++ [a]).map thE)), some (thE s), some (thE a)]
                rw [List.map_append]
                rfl
              · rw [List.nodup_append]
                refine ⟨hW'.nd, by simp, fun b hb c hc => ?_⟩
                rw [List.mem_singleton.mp hc]
                exact fun e => hn (by rw [← e]; exact hb)
              · rcases List.mem_append.mp hb with hb | hb
                · exact hW'.rch b hb
                · rw [List.mem_singleton.mp hb]
                  exact .next (hW'.rch s (hW'.sub s List.mem_cons_self)) haV hao
              · rcases List.mem_append.mp hb with hb | hb
                · exact hW'.inV b hb
                · rw [List.mem_singleton.mp hb]
                  exact haV
              · rw [← List.cons_append] at hb
                rcases List.mem_append.mp hb with hb | hb
                · exact List.mem_append_left _ (hW'.sub b hb)
                · exact List.mem_append_right _ hb
              · rw [← List.cons_append]
                rcases List.mem_append.mp hb with hb | hb
                · rcases hW'.cl b hb with q | q
                  · exact .inl (List.mem_append_left _ q)
                  · exact .inr fun c hc ho => List.mem_append_left _ (q c hc ho)
                · exact .inl (List.mem_append_right _ hb)
              · rw [List.length_cons, List.length_append, List.length_append, List.length_singleton]
                omega
              · rw [List.length_append, List.length_append, List.length_singleton]
                omega
              · rcases tk hb with h | h
                · exact List.mem_append_left _ (hj b h)
                · rw [h]
                  simp
            · have hn : a ∈ W' := by
                rw [if_pos rfl] at hn
                simpa using hn
              refine w_nil1 ⟨_, .inl rfl, Q', W', some (thE a), rfl, hW', hl', fun b hb => ?_⟩
              rcases tk hb with h | h
              · exact hj b h
              · rw [h]
                exact hn
        · rintro ρ' ⟨Q', W', v5, rfl, hW', hl', hj⟩
          rw [List.length_map, List.take_length] at hj
          have few' := hW'.few hR
          have len' := hW'.len
          rw [List.length_cons] at len'
          refine .inl ⟨_, .inl rfl, ⟨Q', W', _, _, rfl, ⟨hW'.nd, hW'.rch, hW'.inV, fun b hb => hW'.sub b (List.mem_cons_of_mem _ hb), fun b hb => ?_, hW'.fst, by omega⟩⟩, ?_⟩
          · rcases hW'.cl b hb with q | q
            · rcases List.mem_cons.mp q with rfl | q
              · exact .inr fun c hc ho => hj c (List.mem_filter.mpr ⟨hc, ho⟩)
              · exact .inl q
            · exact .inr q
          · show 100 + (Q'.map thE).length - (W'.map thE).length < 100 + ((Q0 ++ [s]).map thE).length - (W.map thE).length
            rw [List.length_map, List.length_map, List.length_map, List.length_map, List.length_append, List.length_singleton]
            omega
    · cases Q with
      | nil =>
        have e : lf rows n t = (ths n rows.length).filter fun o => decide (o ∈ W) := lft_filter fun o => decide_eq_true_iff.trans (rch_iff hW.fst hW.rch (fun s hs b hb ho => by
          rcases hW.cl s hs with q | q
          · exact nomatch q
          · exact q b hb ho) o)
        refine w_ret (v_lc (v_items (v_fn (v_cons (v_var rfl) v_nil) (d_ths hR)) rfl) (by rw [List.length_map, ths_len]; omega) (lcD_filterE (h := thE) (q := fun o => decide (o ∈ W)) fun o ho => ⟨_, rfl, v_tst (v_eq (v_2 (v_var rfl) (v_var rfl) (in_li o W)) rfl), fun _ => v_var rfl⟩)) ?_
        rw [e]
      | cons s Q => cases hb
end
end DL
namespace DL
open PySem PySem.Spec L2 Wv
def tlE (l : List Th) : D := .tup (l.map thE)
theorem th_depth (t : Th) : (toP (thE t)).depth = 1 := by
  rw [toP_th, PyData.depth, PyData.depthAll, PyData.depthAll, PyData.depthAll, PyData.depth, PyData.depth]
  rfl
theorem tl_keys : ∀ l : List Th, keyDs (toPs (l.map thE)) = true ∧ PyData.depthAll (toPs (l.map thE)) ≤ 1
  | [] => by
    rw [List.map_nil, toPs, keyDs, PyData.depthAll]
    exact ⟨rfl, by omega⟩
  | t :: l => by
    obtain ⟨h1, h2⟩ := tl_keys l
    rw [List.map_cons, toPs, keyDs, PyData.depthAll, key_th, h1, th_depth]
    exact ⟨rfl, by omega⟩
theorem ok_tl (l : List Th) : okKey (tlE l) = true := by
  obtain ⟨h1, h2⟩ := tl_keys l
  show (keyDs (toPs (l.map thE)) && decide (PyData.depthAll (toPs (l.map thE)) ≤ 7)) = true
  rw [h1, decide_eq_true (by omega)]
  rfl
theorem tl_inj : ∀ {a b : List Th}, toPs (a.map thE) = toPs (b.map thE) → a = b
  | [], [], _ => rfl
  | [], y :: b, h => by rw [List.map_nil, List.map_cons, toPs, toPs] at h; cases h
  | x :: a, [], h => by rw [List.map_nil, List.map_cons, toPs, toPs] at h; cases h
  | x :: a, y :: b, h => by
    rw [List.map_cons, List.map_cons, toPs, toPs] at h
    obtain ⟨h1, h2⟩ := List.cons.inj h
    rw [th_inj h1, tl_inj h2]
theorem eqv_tl (a b : List Th) : eqvD (tlE a) (tlE b) = decide (a = b) := by
  rw [eqv_ok (ok_tl a) (ok_tl b)]
  refine decide_eq_decide.mpr ⟨fun h => ?_, fun e => by rw [e]⟩
  unfold tlE at h
  rw [toP, toP] at h
  exact tl_inj (PyData.tuple.inj h)
theorem any_tl (t : List Th) (W : List (List Th)) : ((W.map tlE).any fun y => eqvD y (tlE t)) = decide (t ∈ W) := (any_enc eqv_tl t W).trans (decide_eq_decide.mpr Iff.rfl)
section
variable {A : Type} [DecidableEq A] {ea : A → D}
theorem addAt_enc (he : ∀ x y, eqvD (ea x) (ea y) = decide (x = y)) (a : A) (x : D) (g : A → List D) : ∀ {K : List A}, K.Nodup → addAt (ea a) x (K.map ea) (K.map g) = K.map fun k => if k = a then g k ++ [x] else g k
  | [], _ => rfl
  | k :: K, hn => by
    rw [List.nodup_cons] at hn
    rw [List.map_cons, List.map_cons, List.map_cons, addAt, he]
    by_cases e : k = a
    · rw [decide_eq_true e, if_pos rfl, if_pos e]
      congr 1
      refine List.map_congr_left fun j hj => ?_
      rw [if_neg fun z => hn.1 (by rw [e, ← z]; exact hj)]
    · rw [decide_eq_false e, if_neg Bool.false_ne_true, if_neg e, addAt_enc he a x g hn.2]
end
def clT (f : Th → List Th) (V : List Th) (k : List Th) : List Th := V.filter fun t => decide (f t = k)
theorem clT_snoc (f : Th → List Th) (V : List Th) (t : Th) (k : List Th) : (clT f (V ++ [t]) k).map thE = if k = f t then (clT f V k).map thE ++ [thE t] else (clT f V k).map thE := by
  unfold clT
  rw [List.filter_append, List.map_append]
  by_cases e : k = f t
  · rw [if_pos e, List.filter_cons, decide_eq_true e.symm, if_pos rfl]
    rfl
  · rw [if_neg e, List.filter_cons, decide_eq_false fun z => e z.symm, if_neg Bool.false_ne_true]
    rw [List.filter_nil, List.map_nil, List.append_nil]
theorem lay_loop {mK : Ev → R D} {cl : D} {f : Th → List Th} : ∀ (todo dn : List Th) (K : List (List Th)), (∀ t ∈ todo, mK [some cl, none, some (thE t), none] = .ok (tlE (f t))) → K.Nodup → (∀ t ∈ dn, f t ∈ K) → dn.length + todo.length ≤ 1000 → K.length ≤ dn.length →
    layLoop mK cl (todo.map thE) (K.map tlE) (K.map fun k => (clT f dn k).map thE) = .ok ((clsL f todo K).map tlE, (clsL f todo K).map fun k => (clT f (dn ++ todo) k).map thE)
  | [], dn, K, _, _, _, _, _ => by rw [List.append_nil]; rfl
  | t :: todo, dn, K, hk, hn, hd, hl, hK => by
    rw [List.length_cons] at hl
    have cond : okKey (tlE (f t)) = true ∧ (K.map tlE).length ≤ 10000 ∧ ((K.map fun k => (clT f dn k).map thE).all fun l => decide (l.length ≤ 10000)) = true := by
      refine ⟨ok_tl _, by rw [List.length_map]; omega, ?_⟩
      rw [List.all_map, List.all_eq_true]
      intro k _
      refine decide_eq_true ?_
      show ((clT f dn k).map thE).length ≤ 10000
      rw [List.length_map]
      have := List.length_filter_le (fun t => decide (f t = k)) dn
      unfold clT
      omega
    rw [List.map_cons, layLoop, hk t List.mem_cons_self, R.ok_bind, if_pos cond, clsL]
    have any := any_tl (f t) K
    have hk' : ∀ s ∈ todo, mK [some cl, none, some (thE s), none] = .ok (tlE (f s)) := fun s hs => hk s (List.mem_cons_of_mem _ hs)
    by_cases q : f t ∈ K
    · have e1 : layOne (tlE (f t)) (thE t) (K.map tlE) (K.map fun k => (clT f dn k).map thE) = (K.map tlE, K.map fun k => (clT f (dn ++ [t]) k).map thE) := by
        unfold layOne
        rw [any, decide_eq_true q, if_pos rfl, addAt_enc eqv_tl _ _ _ hn]
        congr 1
        exact List.map_congr_left fun k _ => (clT_snoc f dn t k).symm
      rw [e1, if_pos q, lay_loop todo (dn ++ [t]) K hk' hn (fun s hs => by
        rcases List.mem_append.mp hs with hs | hs
        · exact hd s hs
        · rw [List.mem_singleton.mp hs]; exact q) (by rw [List.length_append, List.length_singleton]; omega) (by rw [List.length_append]; omega), List.append_assoc]
      rfl
    · have hn2 : (K ++ [f t]).Nodup := by
        rw [List.nodup_append]
        refine ⟨hn, by simp, fun x hx y hy e => ?_⟩
        rw [List.mem_singleton.mp hy] at e
        exact q (e ▸ hx)
      have e0 : (K.map fun k => (clT f dn k).map thE) ++ [[]] = (K ++ [f t]).map fun k => (clT f dn k).map thE := by
        rw [List.map_append]
        congr 1
        show [[]] = [(clT f dn (f t)).map thE]
        have : clT f dn (f t) = [] := List.filter_eq_nil_iff.mpr fun s hs => by
          rw [decide_eq_true_eq]
          exact fun e => q (e ▸ hd s hs)
        rw [this]
        rfl
      have e00 : K.map tlE ++ [tlE (f t)] = (K ++ [f t]).map tlE := by rw [List.map_append]; rfl
      have e1 : layOne (tlE (f t)) (thE t) (K.map tlE) (K.map fun k => (clT f dn k).map thE) = ((K ++ [f t]).map tlE, (K ++ [f t]).map fun k => (clT f (dn ++ [t]) k).map thE) := by
        unfold layOne
        rw [any, decide_eq_false q, if_neg Bool.false_ne_true, e0, e00, addAt_enc eqv_tl _ _ _ hn2]
        congr 1
        exact List.map_congr_left fun k _ => (clT_snoc f dn t k).symm
      rw [e1, if_neg q, lay_loop todo (dn ++ [t]) (K ++ [f t]) hk' hn2 (fun s hs => by
        rcases List.mem_append.mp hs with hs | hs
        · exact List.mem_append_left _ (hd s hs)
        · rw [List.mem_singleton.mp hs]; simp) (by rw [List.length_append, List.length_singleton]; omega) (by rw [List.length_append, List.length_append]; simp; omega), List.append_assoc]
      rfl
section
variable {A : Type} {key : Nat → Int}
theorem run_lt {n i : Nat} (h : 2 ≤ n) (hi : i ∈ (kasRun (ltK key) (PySem.W.kas_sort n)).toList) : i < n := by
  have := (sort_ok (key := key) h).2.toList.mem_iff.mp hi
  simpa using this
theorem out_map (ea : A → D) (a0 : A) (L : List A) : outV (ltK key) .non (L.map ea) = (outV (ltK key) a0 L).map ea := by
  unfold outV
  rw [List.length_map]
  split
  · rfl
  · rw [List.map_map]
    refine List.map_congr_left fun i hi => ?_
    have hi := run_lt (by omega) hi
    show (L.map ea).getD i .non = ea (L.getD i a0)
    rw [List.getD_eq_getElem?_getD, List.getElem?_map, List.getElem?_eq_getElem hi, List.getD_eq_getElem?_getD, List.getElem?_eq_getElem hi]
    rfl
theorem out_perm (a0 : A) (L : List A) : (outV (ltK key) a0 L).Perm L := by
  unfold outV
  split
  · exact List.Perm.refl _
  · have p := ((sort_ok (key := key) (show 2 ≤ L.length by omega)).2.toList).map fun i => L.getD i a0
    have e : (List.range L.length).map (fun i => L.getD i a0) = L := by
      refine List.ext_getElem (by simp) fun i h1 h2 => ?_
      rw [List.getElem_map, List.getElem_range, List.getD_eq_getElem?_getD, List.getElem?_eq_getElem h2]
      rfl
    rw [show (List.toArray (List.range L.length)).toList = List.range L.length from rfl, e] at p
    exact p
theorem out_inc (a0 : A) (L : List A) (k : A → Int) (hk : ∀ i, i < L.length → key i = k (L.getD i a0)) : (outV (ltK key) a0 L).Pairwise fun a b => k a ≤ k b := by
  unfold outV
  split
  · rename_i h
    match L, h with
    | [], _ => exact List.Pairwise.nil
    | [a], _ => exact List.pairwise_singleton _ _
    | a :: b :: l, h => exact absurd h (by simp only [List.length_cons]; omega)
  · have h2 : 2 ≤ L.length := by omega
    have s := (sort_ok (key := key) h2).1
    have pl := (sort_ok (key := key) h2).2.toList.length_eq
    have lt : ∀ i ∈ (kasRun (ltK key) (PySem.W.kas_sort L.length)).toList, i < L.length := fun i hi => run_lt h2 hi
    generalize kasRun (ltK key) (PySem.W.kas_sort L.length) = p at s pl lt
    have pl : p.size = L.length := by
      have : p.toList.length = (List.range L.length).length := pl
      rw [List.length_range] at this
      simpa using this
    rw [List.pairwise_map, List.pairwise_iff_getElem]
    intro i j hi hj hij
    have hi' : i < p.size := by simpa using hi
    have hj' : j < p.size := by simpa using hj
    have q := s i j (by omega) (by omega)
    have g : ∀ {m : Nat} (hm : m < p.size), K' key p m = k (L.getD p.toList[m] a0) := fun {m} hm => by
      unfold K'
      have e : p.getD m 0 = p.toList[m] := by
        rw [Array.getD_eq_getD_getElem?, Array.getElem?_eq_getElem hm]
        rfl
      rw [e]
      exact hk _ (lt _ (List.getElem_mem _))
    rw [g hi', g hj'] at q
    exact q
end
theorem lens_tl : ∀ K : List (List Th), tupLens (K.map tlE) = some (K.map fun k => (k.length : Int))
  | [] => rfl
  | k :: K => by
    show (match tupLens (K.map tlE) with | some q => some (((k.map thE).length : Int) :: q) | none => none) = _
    rw [lens_tl K, List.length_map]
    rfl
def srtT (K : List (List Th)) : List (List Th) := outV (ltK fun i => (K.map fun k => (k.length : Int)).getD i 0) [] K
theorem len_at {K : List (List Th)} {i : Nat} (hi : i < K.length) : (K.map fun k => (k.length : Int)).getD i 0 = ((K.getD i []).length : Int) := by
  rw [List.getD_eq_getElem?_getD, List.getElem?_map, List.getElem?_eq_getElem hi, List.getD_eq_getElem?_getD, List.getElem?_eq_getElem hi]
  rfl
theorem srt_perm (K : List (List Th)) : (srtT K).Perm K := out_perm _ _
theorem srt_inc (K : List (List Th)) : (srtT K).Pairwise fun a b => a.length ≤ b.length :=
  List.Pairwise.imp (fun {a b} q => by omega) (out_inc [] K (fun k => (k.length : Int)) fun i hi => len_at hi)
theorem sort_tl {K : List (List Th)} (h : K.length < 64) : sortedLen [.lst (K.map tlE)] = .ok (D.lst ((srtT K).map tlE)) := by
  show (match tupLens (K.map tlE) with | some ns => if ns.length < 64 then R.ok (D.lst (outV (ltK fun i => ns.getD i 0) .non (K.map tlE))) else .bad | none => .bad) = _
  rw [lens_tl]
  show (if (K.map fun k => (k.length : Int)).length < 64 then R.ok (D.lst (outV (ltK fun i => (K.map fun k => (k.length : Int)).getD i 0) .non (K.map tlE))) else .bad) = _
  rw [if_pos (by rw [List.length_map]; exact h), out_map tlE []]
  rfl
section
variable {rows : List (List Int)} {n : Nat}
noncomputable def clsC (rows : List (List Int)) (n : Nat) : List (List Th) := clsL (lf rows n) (ths n rows.length) []
noncomputable def layT (rows : List (List Int)) (n : Nat) (k : List Th) : List Th := clT (lf rows n) (ths n rows.length) k
theorem cls_len {A K : Type} [DecidableEq K] (f : A → K) : ∀ (l : List A) (acc : List K), (clsL f l acc).length ≤ acc.length + l.length
  | [], acc => Nat.le_refl _
  | a :: l, acc => by
    rw [clsL, List.length_cons]
    refine Nat.le_trans (cls_len f l _) ?_
    split
    · omega
    · rw [List.length_append, List.length_singleton]
      omega
theorem clsC_len (hR : Rect rows n) : (clsC rows n).length ≤ 32 := by
  have h1 := hR.n16
  have h2 := hR.r16
  have := cls_len (lf rows n) (ths n rows.length) []
  rw [ths_len, List.length_nil] at this
  unfold clsC
  omega
theorem d_layersE (hR : Rect rows n) : m_layers [clD rows] = .ok (.lst ((srtT (clsC rows n)).map fun k => D.lst ((layT rows n k).map thE))) := by
  have h1 := hR.n16
  have h2 := hR.r16
  have hc := clsC_len hR
  have k1 := sort_tl (K := clsC rows n) (by omega)
  have k2 := srt_perm (clsC rows n)
  generalize srtT (clsC rows n) = K at k1 k2
  have e1 : mItems (mFn m_threads (mCons (mV 0) mNil)) [some (clD rows), none, none, none] = .ok ((ths n rows.length).map thE) := v_items (v_fn (v_cons (v_var rfl) v_nil) (d_ths hR)) rfl
  have e2 : layLoop (mFn tupleD (mCons (mFn m_lifts_with (mCons (mV 0) (mCons (mV 2) mNil))) mNil)) (clD rows) ((ths n rows.length).map thE) [] [] = .ok ((clsC rows n).map tlE, (clsC rows n).map fun k => (layT rows n k).map thE) := by
    have := lay_loop (mK := mFn tupleD (mCons (mFn m_lifts_with (mCons (mV 0) (mCons (mV 2) mNil))) mNil)) (cl := clD rows) (f := lf rows n) (ths n rows.length) [] [] (fun t ht => v_fn (v_cons (v_fn (v_cons (v_var rfl) (v_cons (v_var rfl) v_nil)) (d_lifts hR ht)) v_nil) rfl) List.nodup_nil (fun t ht => nomatch ht) (by rw [ths_len, List.length_nil]; omega) (Nat.le_refl _)
    rw [List.nil_append] at this
    exact this
  have hm : ∀ k ∈ K, k ∈ clsC rows n := fun k hk => k2.mem_iff.mp hk
  have e3 : mLc (mItems (mFn sortedLen (mCons (mFn keysD (mCons (mV 1) mNil)) mNil))) [none, some 1] (gN 0) mYes (m2 (mV 1) (mV 0) ixK) [some (clD rows), some (.dct ((clsC rows n).map tlE) (((clsC rows n).map fun k => (layT rows n k).map thE).map D.lst)), none, none] = .ok (.lst (K.map fun k => D.lst ((layT rows n k).map thE))) := by
    refine v_lc (ds := K.map tlE) (v_items (v_fn (v_cons (v_fn (v_cons (v_var rfl) v_nil) rfl) v_nil) k1) rfl) (by rw [List.length_map, k2.length_eq]; omega) (lcD_mapE (h := fun k => D.lst ((layT rows n k).map thE)) fun k hk => ⟨_, rfl, rfl, v_2 (v_var rfl) (v_var rfl) (l_ixK (ok_tl k) ?_)⟩)
    have g := getK_enc (A := List Th) (B := List Th) (ea := tlE) (eb := fun l => .lst (l.map thE)) eqv_tl k ((clsC rows n).map fun k => (k, layT rows n k))
    rw [List.map_map, List.map_map] at g
    rw [List.map_map]
    refine Eq.trans g ?_
    obtain ⟨p, hp, p1, p2⟩ := find_mem (a := k) (W := (clsC rows n).map fun k => (k, layT rows n k)) (by rw [List.map_map]; exact List.mem_map.mpr ⟨k, hm k hk, rfl⟩)
    rw [p2]
    obtain ⟨k', _, rfl⟩ := List.mem_map.mp hp
    have p1 : k' = k := p1
    subst p1
    rfl
  refine x_run ?_
  show mLayers _ _ _ [some (clD rows), none, none, none] = _
  unfold mLayers
  dsimp only
  rw [e1, R.ok_bind, e2, R.ok_bind]
  dsimp only
  rw [e3, R.ok_bind]
theorem d_layers (hR : Rect rows n) : ∃ K : List (List Th), K.Perm (clsC rows n) ∧ K.Pairwise (fun a b => a.length ≤ b.length) ∧ m_layers [clD rows] = .ok (.lst (K.map fun k => D.lst ((layT rows n k).map thE))) := ⟨_, srt_perm _, srt_inc _, d_layersE hR⟩
end
end DL
namespace DL
open PySem PySem.Spec L2 Wv
def colP (P : List (List Int)) (r c : Nat) : Int := (P.getD r []).getD c 0
def crs (P : List (List Int)) (n : Nat) (t : Th) : List Stp := if t.1 = true then (List.range n).map fun c => ((false, c), colP P t.2 c) else (List.range P.length).map fun r => ((true, r), colP P r t.2)
def led (P : List (List Int)) (n : Nat) (s : Stp) : List Stp := (crs P n s.1).filter fun o => !decide (o.2 = s.2)
def xcol (P : List (List Int)) (a b : Th) : Int := if a.1 = true then colP P a.2 b.2 else colP P b.2 a.2
section
variable {P : List (List Int)} {n : Nat}
theorem mem_crs {t : Th} {o : Stp} : o ∈ crs P n t ↔ o.1.1 = !t.1 ∧ o.1 ∈ ths n P.length ∧ o.2 = xcol P t o.1 := by
  unfold crs xcol
  obtain ⟨⟨ob, ok⟩, oc⟩ := o
  obtain ⟨tb, tk⟩ := t
  cases tb with
  | true =>
    rw [if_pos rfl, if_pos rfl, List.mem_map, mem_ths]
    constructor
    · rintro ⟨c, hc, e⟩
      cases e
      exact ⟨rfl, .inl ⟨rfl, List.mem_range.mp hc⟩, rfl⟩
    · rintro ⟨h1, h2, h3⟩
      have h1' : ob = false := h1
      have h3' : oc = colP P tk ok := h3
      clear h1 h3
      subst h1' h3'
      rcases h2 with ⟨_, h2⟩ | ⟨h2, _⟩
      · exact ⟨ok, List.mem_range.mpr h2, rfl⟩
      · cases h2
  | false =>
    rw [if_neg (by simp), if_neg (by simp), List.mem_map, mem_ths]
    constructor
    · rintro ⟨c, hc, e⟩
      cases e
      exact ⟨rfl, .inr ⟨rfl, List.mem_range.mp hc⟩, rfl⟩
    · rintro ⟨h1, h2, h3⟩
      have h1' : ob = true := h1
      have h3' : oc = colP P ok tk := h3
      clear h1 h3
      subst h1' h3'
      rcases h2 with ⟨h2, _⟩ | ⟨_, h2⟩
      · cases h2
      · exact ⟨ok, List.mem_range.mpr h2, rfl⟩
theorem mem_led {s o : Stp} : o ∈ led P n s ↔ o.1.1 = (!s.1.1) ∧ o.1 ∈ ths n P.length ∧ o.2 = xcol P s.1 o.1 ∧ o.2 ≠ s.2 := by
  unfold led
  rw [List.mem_filter, mem_crs]
  constructor
  · rintro ⟨⟨a, b, c⟩, d⟩
    exact ⟨a, b, c, by simpa using d⟩
  · rintro ⟨a, b, c, d⟩
    exact ⟨⟨a, b, c⟩, by simpa using d⟩
theorem xcol_sym {a b : Th} (h : a.1 = (!b.1)) : xcol P a b = xcol P b a := by
  unfold xcol
  cases hb : b.1 <;> rw [hb] at h <;> rw [h] <;> rfl
theorem led_back {s o : Stp} {x : Int} (hs : s.1 ∈ ths n P.length) (h : o ∈ led P n s) (hx : x ≠ o.2) : (s.1, o.2) ∈ led P n (o.1, x) := by
  obtain ⟨a, b, c, d⟩ := mem_led.mp h
  refine mem_led.mpr ⟨?_, hs, ?_, fun e => hx e.symm⟩
  · show s.1.1 = !o.1.1
    rw [a]
    simp
  · show o.2 = xcol P o.1 s.1
    rw [xcol_sym a]
    exact c
def Sok (P : List (List Int)) (n : Nat) (s : Stp) : Prop := s.1 ∈ ths n P.length ∧ 0 ≤ s.2 ∧ s.2 < 3
theorem xcol_ok (hP : Pic P n) {a b : Th} (ha : a ∈ ths n P.length) (hb : b ∈ ths n P.length) (h : b.1 = (!a.1)) : 0 ≤ xcol P a b ∧ xcol P a b < 3 := by
  have go : ∀ r c, r < P.length → c < n → 0 ≤ colP P r c ∧ colP P r c < 3 := fun r c hr hc => by
    have hm : P.getD r [] ∈ P := getD_mem hr
    refine hP.col _ hm _ (getD_mem ?_)
    rw [hP.all _ hm]
    exact hc
  unfold xcol
  rw [mem_ths] at ha hb
  cases e : a.1 with
  | true =>
    rw [if_pos rfl]
    rw [e] at h ha
    rw [h] at hb
    simp at ha hb
    exact go _ _ ha hb
  | false =>
    rw [if_neg (by simp)]
    rw [e] at h ha
    rw [h] at hb
    simp at ha hb
    exact go _ _ hb ha
theorem led_ok (hP : Pic P n) {s o : Stp} (hs : Sok P n s) (h : o ∈ led P n s) : Sok P n o := by
  obtain ⟨a, b, c, d⟩ := mem_led.mp h
  refine ⟨b, ?_⟩
  rw [c]
  exact xcol_ok hP hs.1 b a
theorem d_cross (hR : Rect P n) {t : Th} (ht : t ∈ ths n P.length) : m_crossings_of [clD P, thE t] = .ok (.lst ((crs P n t).map stE)) := by
  have r16 := hR.r16
  have n16 := hR.n16
  obtain ⟨b, k⟩ := t
  rw [mem_ths] at ht
  cases b with
  | false =>
    have hk : k < n := by simpa using ht
    refine w_run (w_if (b := true) (v_tst (v_eq (v_2 (v_2 (v_var rfl) v_c ix_0) v_c (l_eqS' false false)) rfl)) (fun _ => w_seqret (v_lc (es := ((List.range P.length).map fun r => ((true, r), colP P r k)).map stE) (v_it (v_cons (v_var rfl) v_nil) rfl) ?_ ?_) ?_) fun z => nomatch z)
    · unfold numbD
      rw [List.length_mapIdx, List.length_map]
      omega
    · rw [numb_range P rowD [], List.map_map]
      refine lcD_mapE fun r hr => ⟨_, rfl, rfl, ?_⟩
      have hr := List.mem_range.mp hr
      have hl : (P.getD r []).length = n := hR.all _ (getD_mem hr)
      have eb := bit_at (r := P.getD r []) (k := (k : Nat)) (by omega) (by rw [hl]; omega)
      rw [Int.toNat_natCast] at eb
      exact v_tup (v_cons (v_tup (v_cons v_c (v_cons (v_var rfl) v_nil)) (Nat.le_of_ble_eq_true rfl)) (v_cons (v_2 (v_var rfl) (v_2 (v_var rfl) v_c ix_1) eb) v_nil)) (Nat.le_of_ble_eq_true rfl)
    · rfl
  | true =>
    have hk : k < P.length := by simpa using ht
    have hl : (P.getD k []).length = n := hR.all _ (getD_mem hk)
    have er := row_at (rows := P) (k := (k : Nat)) (by omega) (by omega)
    rw [Int.toNat_natCast] at er
    refine w_run (w_if (b := false) (v_tst (v_eq (v_2 (v_2 (v_var rfl) v_c ix_0) v_c (l_eqS' true false)) rfl)) (fun z => nomatch z) fun _ => w_nil (w_ret (v_lc (es := ((List.range n).map fun c => ((false, c), colP P k c)).map stE) (v_it (v_cons (v_2 (v_var rfl) (v_2 (v_var rfl) v_c ix_1) er) v_nil) rfl) ?_ ?_) ?_))
    · unfold numbD
      rw [List.length_mapIdx, List.length_map]
      omega
    · rw [numb_range (P.getD k []) D.int 0, hl, List.map_map]
      exact lcD_mapE fun r hr => ⟨_, rfl, rfl, v_tup (v_cons (v_tup (v_cons v_c (v_cons (v_var rfl) v_nil)) (Nat.le_of_ble_eq_true rfl)) (v_cons (v_var rfl) v_nil)) (Nat.le_of_ble_eq_true rfl)⟩
    · rfl
theorem crs_len (hR : Rect P n) (t : Th) : (crs P n t).length ≤ 16 := by
  have r16 := hR.r16
  have n16 := hR.n16
  unfold crs
  split <;> rw [List.length_map, List.length_range] <;> assumption
theorem d_led (hR : Rect P n) {s : Stp} (hs : s.1 ∈ ths n P.length) : m_led_to [clD P, stE s] = .ok (.lst ((led P n s).map stE)) := by
  have hl := crs_len hR s.1
  refine w_run (w_ret (v_lc (v_items (v_fn (v_cons (v_var rfl) (v_cons (v_2 (v_var rfl) v_c ix_0) v_nil)) (d_cross hR hs)) rfl) (by rw [List.length_map]; omega) (lcD_filterE (h := stE) (q := fun o => !decide (o.2 = s.2)) fun o _ => ⟨_, rfl, v_tst (v_2 (v_2 (v_var rfl) v_c ix_1) (v_2 (v_var rfl) v_c ix_1) (l_neI _ _)), fun _ => v_var rfl⟩)) rfl)
end
end DL
namespace DL
open PySem PySem.Spec L2 Wv
abbrev WT := List (Stp × List Stp)
def pthE (l : List Stp) : D := .lst (l.map stE)
def dctE (W : WT) : D := .dct (W.map fun p => stE p.1) (W.map fun p => pthE p.2)
inductive Pth (P : List (List Int)) (n : Nat) (f : Stp) : Stp → List Stp → Prop
  | one : Pth P n f f [f]
  | next {s a : Stp} {l : List Stp} : Pth P n f s l → a ∈ led P n s → Pth P n f a (l ++ [a])
structure Wy (P : List (List Int)) (n : Nat) (f : Stp) (Z Q : List Stp) (W : WT) : Prop where
  keys : W.map (·.1) = Z ++ Q
  nd : (W.map (·.1)).Nodup
  pth : ∀ p ∈ W, Pth P n f p.1 p.2 ∧ p.2.length ≤ W.length ∧ Sok P n p.1
  cl : ∀ s ∈ Z, ∀ a ∈ led P n s, a ∈ W.map (·.1)
  fst : f ∈ W.map (·.1)
def allS (n m : Nat) : List Stp := (ths n m).flatMap fun t => [(t, 0), (t, 1), (t, 2)]
theorem allS_len (n m : Nat) : (allS n m).length = 3 * (n + m) := by
  unfold allS
  rw [List.length_flatMap]
  have e : ((ths n m).map fun t => ([(t, 0), (t, 1), (t, 2)] : List Stp).length) = List.replicate (n + m) 3 := by
    rw [List.eq_replicate_iff]
    refine ⟨?_, fun b hb => ?_⟩
    · unfold ths
      rw [List.length_map, List.length_append, List.length_map, List.length_map, List.length_range, List.length_range]
    · obtain ⟨t, _, rfl⟩ := List.mem_map.mp hb
      rfl
  rw [e, List.sum_replicate_nat]
  omega
theorem mem_allS {n m : Nat} {s : Stp} (h1 : s.1 ∈ ths n m) (h2 : 0 ≤ s.2) (h3 : s.2 < 3) : s ∈ allS n m := by
  unfold allS
  refine List.mem_flatMap.mpr ⟨s.1, h1, ?_⟩
  obtain ⟨t, c⟩ := s
  have : c = 0 ∨ c = 1 ∨ c = 2 := by
    have h2 : 0 ≤ c := h2
    have h3 : c < 3 := h3
    omega
  rcases this with rfl | rfl | rfl <;> simp
section
variable {P : List (List Int)} {n : Nat} {f : Stp} {Z Q : List Stp} {W : WT}
theorem Wy.few (hR : Rect P n) (h : Wy P n f Z Q W) : W.length ≤ 96 := by
  have r16 := hR.r16
  have n16 := hR.n16
  have q := nodup_len (m := allS n P.length) h.nd fun s hs => by
    obtain ⟨p, hp, rfl⟩ := List.mem_map.mp hs
    obtain ⟨_, _, h1, h2, h3⟩ := h.pth p hp
    exact mem_allS h1 h2 h3
  rw [allS_len, List.length_map] at q
  omega
theorem Wy.ok (h : Wy P n f Z Q W) {s : Stp} (hs : s ∈ W.map (·.1)) : Sok P n s := by
  obtain ⟨p, hp, rfl⟩ := List.mem_map.mp hs
  exact (h.pth p hp).2.2
theorem fit_pth (l : List Stp) : fit 8 (pthE l) = true := by
  show (l.map stE).all (fit 7) = true
  rw [List.all_map, List.all_eq_true]
  intro s _
  exact fit_mono (fit_st s) (by decide)
theorem in_W {neg : Bool} (s : Stp) (W : WT) : inK neg (stE s) (dctE W) = .ok (.bl (if neg = true then !decide (s ∈ W.map (·.1)) else decide (s ∈ W.map (·.1)))) := by
  unfold dctE
  rw [l_inK (ok_st s)]
  have e := any_enc eqv_st s (W.map (·.1))
  rw [List.map_map] at e
  rw [show (W.map fun p => stE p.1) = W.map (stE ∘ fun x => x.1) from rfl, e]
  exact congrArg (fun b => R.ok (D.bl b)) (by cases neg <;> simp)
theorem get_W {s : Stp} {W : WT} (h : s ∈ W.map (·.1)) : ∃ p ∈ W, p.1 = s ∧ ixK (dctE W) (stE s) = .ok (pthE p.2) := by
  obtain ⟨p, hp, e1, e2⟩ := find_mem h
  refine ⟨p, hp, e1, l_ixK (ok_st s) ?_⟩
  rw [getK_enc eqv_st, e2]
  rfl
def muW (ρ : Ev) : Nat := match ρ[2]?, ρ[3]? with
  | some (some (D.dct ks _)), some (some (D.lst q)) => 100 + q.length - ks.length
  | _, _ => 0
theorem d_ways (hP : Pic P n) (hf : Sok P n f) : ∃ W, m_ways_from [clD P, stE f] = .ok (dctE W) ∧ Wy P n f (W.map (·.1)) [] W := by
  have hR := hP.toRect
  suffices q : ∃ d, m_ways_from [clD P, stE f] = .ok d ∧ ∃ W, d = dctE W ∧ Wy P n f (W.map (·.1)) [] W by
    obtain ⟨d, h1, W, rfl, h2⟩ := q
    exact ⟨W, h1, h2⟩
  refine w_runE (w_set (v_dct1 (v_var rfl) (v_lst (v_cons (v_var rfl) v_nil) (Nat.le_of_ble_eq_true rfl)) (ok_st f)) (w_set (v_lst (v_cons (v_var rfl) v_nil) (Nat.le_of_ble_eq_true rfl)) ?_))
  refine w_while (fun ρ => ∃ Z Q W v4 v5, ρ = [some (clD P), some (stE f), some (dctE W), some (pthE Q), v4, v5] ∧ Wy P n f Z Q W) muW
    ⟨[], [f], [(f, [f])], none, none, rfl, ⟨rfl, by simp, fun p hp => ?_, (fun s hs => nomatch hs), by simp⟩⟩ (show 100 < 1000 by decide) ?_
  · rw [List.mem_singleton.mp hp]
    exact ⟨.one, Nat.le_refl _, hf⟩
  · rintro ρ ⟨Z, Q, W, v4, v5, rfl, hW⟩
    have few := hW.few hR
    have hlen : W.length = Z.length + Q.length := by
      have := congrArg List.length hW.keys
      rw [List.length_map, List.length_append] at this
      exact this
    refine ⟨!(Q.map stE).isEmpty, v_tst (v_2 (v_var rfl) (v_lst v_nil (Nat.le_of_ble_eq_true rfl)) (l_neNil (fit_pth Q))), fun hb => ?_, fun hb => ?_⟩
    · cases Q with
      | nil => cases hb
      | cons s Q =>
        have hsk : s ∈ W.map (·.1) := by
          rw [hW.keys]
          simp
        have hs := hW.ok hsk
        refine w_pop0 (x := stE s) (l := Q.map stE) rfl (by rw [List.length_map]; rw [List.length_cons] at hlen; omega) ?_
        refine w_for1 (ds := (led P n s).map stE) (fun j ρ => ∃ Q' W' v5, ρ = [some (clD P), some (stE f), some (dctE W'), some (pthE Q'), some (stE s), v5] ∧ Wy P n f Z (s :: Q') W' ∧ ∀ a ∈ (led P n s).take j, a ∈ W'.map (·.1))
          (v_items (v_fn (v_cons (v_var rfl) (v_cons (v_var rfl) v_nil)) (d_led hR hs.1)) rfl) ⟨Q, W, _, rfl, hW, fun a ha => by rw [List.take_zero] at ha; cases ha⟩ ?_ ?_
        · rintro j d ρ hd ⟨Q', W', v5, rfl, hW', hj⟩
          rw [List.getElem?_map] at hd
          cases hq : (led P n s)[j]? with
          | none =>
            rw [hq] at hd
            cases hd
          | some a =>
            rw [hq] at hd
            cases hd
            have ha : a ∈ led P n s := List.mem_of_getElem? hq
            have few' := hW'.few hR
            have tk : ∀ {b}, b ∈ (led P n s).take (j + 1) → b ∈ (led P n s).take j ∨ b = a := fun {b} hb => by
              rw [List.take_succ, hq] at hb
              rcases List.mem_append.mp hb with h | h
              · exact .inl h
              · exact .inr (by simpa using h)
            refine ⟨_, rfl, w_if1 (v_tst (v_2 (v_var rfl) (v_var rfl) (in_W a W'))) (fun hn => ?_) (fun hn => ?_)⟩
            · have hn : a ∉ W'.map (·.1) := by
                rw [if_pos rfl] at hn
                simpa using hn
              obtain ⟨p, hp, e1, e2⟩ := get_W (s := s) (W := W') (by rw [hW'.keys]; simp)
              obtain ⟨p1, p2, p3⟩ := hW'.pth p hp
              have e3 : putD (stE a) (.lst (p.2.map stE ++ [stE a])) (W'.map fun p => stE p.1) (W'.map fun p => pthE p.2) = dctE (W' ++ [(a, p.2 ++ [a])]) := by
                rw [put_enc eqv_st hn]
                unfold dctE pthE
                rw [List.map_append, List.map_append]
                simp
              refine w_put (ks := W'.map fun p => stE p.1) (vs := W'.map fun p => pthE p.2) (d := stE a) (v := .lst (p.2.map stE ++ [stE a])) rfl (v_var rfl) (v_2 (v_2 (v_var rfl) (v_var rfl) e2) (v_lst (v_cons (v_var rfl) v_nil) (Nat.le_of_ble_eq_true rfl)) (l_addL ?_)) (ok_st a) (by rw [List.length_map]; omega) ?_
              · rw [List.length_map, List.length_singleton]
                omega
              · rw [e3]
                refine w_app1 (ds := Q'.map stE) rfl (v_var rfl) ?_ ⟨_, .inl rfl, Q' ++ [a], W' ++ [(a, p.2 ++ [a])], some (stE a), ?_, ?_, ?_⟩
                · have := congrArg List.length hW'.keys
                  rw [List.length_map, List.length_append, List.length_cons] at this
                  rw [List.length_map]
                  omega
                · show _ = [some (clD P), some (stE f), some (dctE (W' ++ [(a, p.2 ++ [a])])), some (.lst ((Q' ++ [a]).map stE)), some (stE s), some (stE a)]
                  rw [List.map_append]
                  rfl
                · have hk : (W' ++ [(a, p.2 ++ [a])]).map (·.1) = W'.map (·.1) ++ [a] := by simp
                  refine ⟨?_, ?_, fun q hq => ?_, fun b hb c hc => ?_, ?_⟩
                  · rw [hk, hW'.keys]
                    simp
                  · rw [hk, List.nodup_append]
                    refine ⟨hW'.nd, by simp, fun b hb c hc => ?_⟩
                    rw [List.mem_singleton.mp hc]
                    exact fun e => hn (by rw [← e]; exact hb)
                  · rw [List.length_append, List.length_singleton]
                    rcases List.mem_append.mp hq with hq | hq
                    · obtain ⟨q1, q2, q3⟩ := hW'.pth q hq
                      exact ⟨q1, by omega, q3⟩
                    · rw [List.mem_singleton.mp hq]
                      refine ⟨.next (e1 ▸ p1) ha, ?_, led_ok hP hs ha⟩
                      rw [List.length_append, List.length_singleton]
                      omega
                  · rw [hk]
                    exact List.mem_append_left _ (hW'.cl b hb c hc)
                  · rw [hk]
                    exact List.mem_append_left _ hW'.fst
                · intro b hb
                  have hk : (W' ++ [(a, p.2 ++ [a])]).map (·.1) = W'.map (·.1) ++ [a] := by simp
                  rw [hk]
                  rcases tk hb with h | h
                  · exact List.mem_append_left _ (hj b h)
                  · rw [h]
                    simp
            · have hn : a ∈ W'.map (·.1) := by
                rw [if_pos rfl] at hn
                simpa using hn
              refine w_nil1 ⟨_, .inl rfl, Q', W', some (stE a), rfl, hW', fun b hb => ?_⟩
              rcases tk hb with h | h
              · exact hj b h
              · rw [h]
                exact hn
        · rintro ρ' ⟨Q', W', v5, rfl, hW', hj⟩
          rw [List.length_map, List.take_length] at hj
          have few' := hW'.few hR
          have hl' : W'.length = Z.length + (Q'.length + 1) := by
            have := congrArg List.length hW'.keys
            rw [List.length_map, List.length_append, List.length_cons] at this
            exact this
          refine .inl ⟨_, .inl rfl, ⟨Z ++ [s], Q', W', _, _, rfl, ⟨by rw [hW'.keys]; simp, hW'.nd, hW'.pth, fun b hb c hc => ?_, hW'.fst⟩⟩, ?_⟩
          · rcases List.mem_append.mp hb with hb | hb
            · exact hW'.cl b hb c hc
            · rw [List.mem_singleton.mp hb] at hc
              exact hj c hc
          · show 100 + (Q'.map stE).length - (W'.map fun p => stE p.1).length < 100 + ((s :: Q).map stE).length - (W.map fun p => stE p.1).length
            rw [List.length_map, List.length_map, List.length_map, List.length_map, List.length_cons]
            rw [List.length_cons] at hlen
            omega
    · cases Q with
      | nil =>
        exact w_ret (v_var rfl) ⟨_, rfl, W, rfl, ⟨by rw [List.append_nil], hW.nd, hW.pth, fun s hs => hW.cl s (by have := hW.keys; rw [List.append_nil] at this; rw [← this]; exact hs), hW.fst⟩⟩
      | cons s Q => cases hb
end
end DL
namespace DL
open PySem PySem.Spec L2 Wv
def redE (T : List (Th × Stp)) : D := .dct (T.map fun p => thE p.1) (T.map fun p => stE p.2)
section
variable {P : List (List Int)} {n : Nat} {f : Stp} {W : WT}
def Clash (W : WT) (d : D) : Prop := (d = .non ∧ (W.map (·.1.1)).Nodup) ∨ ∃ p ∈ W, ∃ q ∈ W, p.1.1 = q.1.1 ∧ p.1.2 ≠ q.1.2 ∧ d = .tup [pthE p.2, pthE q.2]
theorem d_clash (hR : Rect P n) {Z Q : List Stp} (h : Wy P n f Z Q W) : ∃ d, m_clash [dctE W] = .ok d ∧ Clash W d := by
  have few := h.few hR
  refine w_runE (w_set v_c ?_)
  refine w_forG (ds := (W.map (·.1)).map stE) (fun i ρ => ∃ v2, ρ = [some (dctE W), some (redE (((W.map (·.1)).take i).map fun s => (s.1, s))), v2] ∧ (((W.map (·.1)).take i).map (·.1)).Nodup)
    (v_items (v_fn (v_cons (v_var rfl) v_nil) (show keysD [dctE W] = .ok (.lst ((W.map (·.1)).map stE)) by rw [List.map_map]; rfl)) rfl) ⟨none, rfl, by simp⟩ ?_ ?_
  · rintro i d ρ hd ⟨v2, rfl, hn⟩
    rw [List.getElem?_map] at hd
    cases hq : (W.map (·.1))[i]? with
    | none =>
      rw [hq] at hd
      cases hd
    | some s =>
      rw [hq] at hd
      cases hd
      have hs : s ∈ W.map (·.1) := List.mem_of_getElem? hq
      have ht : (W.map (·.1)).take (i + 1) = (W.map (·.1)).take i ++ [s] := by rw [List.take_succ, hq]; rfl
      have hl : ((W.map (·.1)).take i).length ≤ 96 := by
        rw [List.length_take, List.length_map]
        omega
      refine ⟨_, rfl, w_if (v_tst (v_2 (v_2 (v_var rfl) v_c ix_0) (v_var rfl) (in_T s.1 _))) (fun hb => ?_) (fun hb => ?_)⟩
      · have hb : s.1 ∈ (((W.map (·.1)).take i).map fun s => (s.1, s)).map (·.1) := by
          rw [if_neg Bool.false_ne_true] at hb
          exact of_decide_eq_true hb
        obtain ⟨p, hp, e1, e2⟩ := find_mem hb
        obtain ⟨s', hs', rfl⟩ := List.mem_map.mp hp
        have e3 : ixK (redE (((W.map (·.1)).take i).map fun s => (s.1, s))) (thE s.1) = .ok (stE s') := by
          refine l_ixK (ok_th s.1) ?_
          rw [getK_enc eqv_th, e2]
          rfl
        obtain ⟨a, ha, a1, a2⟩ := get_W (List.mem_of_mem_take hs')
        obtain ⟨b, hb', b1, b2⟩ := get_W hs
        refine w_seqret (v_tup (v_cons (v_2 (v_var rfl) (v_2 (v_var rfl) (v_2 (v_var rfl) v_c ix_0) e3) a2) (v_cons (v_2 (v_var rfl) (v_var rfl) b2) v_nil)) (Nat.le_of_ble_eq_true rfl)) (.inr (.inl ⟨_, rfl, _, rfl, .inr ⟨a, ha, b, hb', ?_, ?_, rfl⟩⟩))
        · rw [a1, b1]
          exact e1
        · rw [a1, b1]
          intro e
          have es : s' = s := Prod.ext e1 e
          rw [es] at hs'
          obtain ⟨j, hj, hj2⟩ := List.getElem_of_mem hs'
          rw [List.length_take] at hj
          rw [List.getElem_take] at hj2
          have hi := (List.getElem?_eq_some_iff.mp hq)
          obtain ⟨hi1, hi2⟩ := hi
          have := (List.getElem_inj h.nd).mp (hj2.trans hi2.symm)
          omega
      · have hb : s.1 ∉ (((W.map (·.1)).take i).map fun s => (s.1, s)).map (·.1) := by
          rw [if_neg Bool.false_ne_true] at hb
          exact of_decide_eq_false hb
        refine w_nil (w_put1 (ks := (((W.map (·.1)).take i).map fun s => (s.1, s)).map fun p => thE p.1) (vs := (((W.map (·.1)).take i).map fun s => (s.1, s)).map fun p => stE p.2) rfl (v_2 (v_var rfl) v_c ix_0) (v_var rfl) (ok_th s.1) (by rw [List.length_map, List.length_map]; omega) (.inl ⟨_, .inl rfl, some (stE s), ?_, ?_⟩))
        · rw [put_enc eqv_th hb, ht]
          unfold redE
          rw [List.map_append, List.map_append, List.map_append]
          rfl
        · rw [ht, List.map_append, List.nodup_append]
          refine ⟨hn, by simp, fun b hb1 c hc => ?_⟩
          have hc : c = s.1 := by simpa using hc
          rw [hc]
          intro e
          refine hb ?_
          rw [List.map_map]
          rw [e] at hb1
          exact hb1
  · rintro ρ' ⟨v2, rfl, hn⟩
    rw [List.length_map, List.take_length, List.map_map] at hn
    exact w_ret v_c ⟨_, rfl, .inl ⟨rfl, hn⟩⟩
end
end DL
namespace DL
open PySem PySem.Spec L2 Wv
abbrev GT := List (Th × Int)
def gvE (G : GT) : D := .dct (G.map fun p => thE p.1) (G.map fun p => .int p.2)
def gAt (G : GT) (t : Th) : Option Int := (G.find? fun p => decide (p.1 = t)).map (·.2)
theorem gAt_some {G : GT} {t : Th} : (gAt G t).isSome = decide (t ∈ G.map (·.1)) := by
  unfold gAt
  rw [Option.isSome_map]
  by_cases h : t ∈ G.map (·.1)
  · obtain ⟨p, _, _, e⟩ := find_mem h
    rw [e, decide_eq_true h]
    rfl
  · rw [decide_eq_false h]
    cases e : G.find? fun p => decide (p.1 = t) with
    | none => rfl
    | some p => exact absurd (List.mem_map.mpr ⟨p, List.mem_of_find?_eq_some e, by simpa using List.find?_some e⟩) h
theorem in_G {neg : Bool} (t : Th) (G : GT) : inK neg (thE t) (gvE G) = .ok (.bl (if neg = true then !(gAt G t).isSome else (gAt G t).isSome)) := by
  rw [gAt_some]
  exact in_T t G
theorem get_G {t : Th} {G : GT} {c : Int} (h : gAt G t = some c) : ixK (gvE G) (thE t) = .ok (.int c) := by
  refine l_ixK (ok_th t) ?_
  rw [getK_enc (eb := D.int) eqv_th]
  unfold gAt at h
  cases e : G.find? fun p => decide (p.1 = t) with
  | none =>
    rw [e] at h
    cases h
  | some p =>
    rw [e] at h
    cases h
    rfl
theorem put_G (t : Th) (c : Int) (G : GT) : putD (thE t) (.int c) (G.map fun p => thE p.1) (G.map fun p => .int p.2) = gvE (putT t c G) := putT_enc (eb := D.int) eqv_th t c G
theorem gAt_put (t u : Th) (c : Int) (G : GT) : gAt (putT t c G) u = if u = t then some c else gAt G u := find_putT t u c G
structure Gv (P : List (List Int)) (n : Nat) (g : Th → Option Int) : Prop where
  ok : ∀ t c, g t = some c → Sok P n (t, c)
  cl : ∀ t c, g t = some c → ∀ a ∈ led P n (t, c), g a.1 = some a.2
section
variable {P : List (List Int)} {n : Nat} {f : Stp} {W : WT} {g : Th → Option Int}
theorem agree_back (hg : Gv P n g) {s : Stp} {l : List Stp} (hp : Pth P n f s l) (hf : f.1 ∈ ths n P.length) : ∀ x, g s.1 = some x → x ≠ s.2 → ∃ y, g f.1 = some y := by
  induction hp with
  | one => exact fun x h _ => ⟨x, h⟩
  | @next s a l hp ha ih =>
    intro x h hx
    have hs : s.1 ∈ ths n P.length := by
      cases hp with
      | one => exact hf
      | next _ h => exact (mem_led.mp h).2.1
    have q := hg.cl a.1 x h _ (led_back hs ha hx)
    exact ih a.2 q (mem_led.mp ha).2.2.2
theorem agree (hg : Gv P n g) (hW : Wy P n f (W.map (·.1)) [] W) (hf : Sok P n f) (h0 : g f.1 = none) {s : Stp} (hs : s ∈ W.map (·.1)) : g s.1 = none ∨ g s.1 = some s.2 := by
  obtain ⟨p, hp, rfl⟩ := List.mem_map.mp hs
  cases e : g p.1.1 with
  | none => exact .inl rfl
  | some x =>
    by_cases q : x = p.1.2
    · rw [q]
      exact .inr rfl
    · obtain ⟨y, hy⟩ := agree_back hg (hW.pth p hp).1 hf.1 x e q
      rw [h0] at hy
      cases hy
def gJoin (g : Th → Option Int) (l : List Stp) : Th → Option Int := fun t => match l.find? fun s => decide (s.1 = t) with
  | some s => some s.2
  | none => g t
theorem join_in {l : List Stp} (hn : (l.map (·.1)).Nodup) {s : Stp} (hs : s ∈ l) : gJoin g l s.1 = some s.2 := by
  have : (l.find? fun s' => decide (s'.1 = s.1)) = some s := by
    induction l with
    | nil => cases hs
    | cons x l ih =>
      rw [List.map_cons, List.nodup_cons] at hn
      rw [List.find?_cons]
      rcases List.mem_cons.mp hs with rfl | hs
      · rw [decide_eq_true rfl]
      · have : ¬ x.1 = s.1 := fun e => hn.1 (List.mem_map.mpr ⟨s, hs, e.symm⟩)
        rw [decide_eq_false this]
        exact ih hn.2 hs
  unfold gJoin
  rw [this]
theorem join_out {l : List Stp} {t : Th} (h : t ∉ l.map (·.1)) : gJoin g l t = g t := by
  have : (l.find? fun s' => decide (s'.1 = t)) = none := by
    rw [List.find?_eq_none]
    intro s hs q
    exact h (List.mem_map.mpr ⟨s, hs, by simpa using q⟩)
  unfold gJoin
  rw [this]
theorem join_snoc {l : List Stp} {s : Stp} (h : s.1 ∉ l.map (·.1)) (t : Th) : gJoin g (l ++ [s]) t = if t = s.1 then some s.2 else gJoin g l t := by
  unfold gJoin
  rw [List.find?_append]
  by_cases e : t = s.1
  · rw [if_pos e]
    have : (l.find? fun s' => decide (s'.1 = t)) = none := by
      rw [List.find?_eq_none]
      intro x hx q
      exact h (List.mem_map.mpr ⟨x, hx, by rw [← e]; simpa using q⟩)
    rw [this, Option.none_or, List.find?_cons, decide_eq_true e.symm]
  · rw [if_neg e, List.find?_cons, decide_eq_false fun z => e z.symm]
    cases l.find? fun s' => decide (s'.1 = t) with
    | none => rfl
    | some x => rfl
theorem join_Gv (hg : Gv P n g) (hW : Wy P n f (W.map (·.1)) [] W) (hf : Sok P n f) (h0 : g f.1 = none) (hn : ((W.map (·.1)).map (·.1)).Nodup) : Gv P n (gJoin g (W.map (·.1))) := by
  have main : ∀ t c, gJoin g (W.map (·.1)) t = some c → (t, c) ∈ W.map (·.1) ∨ (t ∉ (W.map (·.1)).map (·.1) ∧ g t = some c) := fun t c h => by
    by_cases q : t ∈ (W.map (·.1)).map (·.1)
    · obtain ⟨s, hs, rfl⟩ := List.mem_map.mp q
      rw [join_in hn hs] at h
      cases h
      exact .inl hs
    · rw [join_out q] at h
      exact .inr ⟨q, h⟩
  refine ⟨fun t c h => ?_, fun t c h a ha => ?_⟩
  · rcases main t c h with q | ⟨_, q⟩
    · exact hW.ok q
    · exact hg.ok t c q
  · rcases main t c h with q | ⟨_, q⟩
    · exact join_in hn (hW.cl _ q a ha)
    · have ga := hg.cl t c q a ha
      by_cases q2 : a.1 ∈ (W.map (·.1)).map (·.1)
      · obtain ⟨s, hs, e⟩ := List.mem_map.mp q2
        have := join_in (g := g) hn hs
        rw [← e, this]
        rcases agree hg hW hf h0 hs with z | z
        · rw [e, ga] at z
          cases z
        · rw [e, ga] at z
          exact z.symm
      · rw [join_out q2]
        exact ga
def Knot (P : List (List Int)) (n : Nat) (d : D) : Prop := ∃ t W0 W1 W2 p0 q0 p1 q1 p2 q2, t ∈ ths n P.length ∧ d = .lst [.tup [pthE (Prod.snd p0), pthE (Prod.snd q0)], .tup [pthE (Prod.snd p1), pthE (Prod.snd q1)], .tup [pthE (Prod.snd p2), pthE (Prod.snd q2)]] ∧
  (Wy P n (t, 0) (List.map (·.1) W0) [] W0 ∧ p0 ∈ W0 ∧ q0 ∈ W0 ∧ p0.1.1 = q0.1.1 ∧ p0.1.2 ≠ q0.1.2) ∧
  (Wy P n (t, 1) (List.map (·.1) W1) [] W1 ∧ p1 ∈ W1 ∧ q1 ∈ W1 ∧ p1.1.1 = q1.1.1 ∧ p1.1.2 ≠ q1.1.2) ∧
  (Wy P n (t, 2) (List.map (·.1) W2) [] W2 ∧ p2 ∈ W2 ∧ q2 ∈ W2 ∧ p2.1.1 = q2.1.1 ∧ p2.1.2 ≠ q2.1.2)
def Answer (P : List (List Int)) (n : Nat) (d : D) : Prop := (∃ k, d = .tup [.str "knot", k] ∧ Knot P n k) ∨ ∃ A B, d = .tup [.str "colours", lsD A, lsD B] ∧ Cols A n ∧ Cols B P.length ∧ ∀ r c, r < P.length → c < n → A.getD c 0 = colP P r c ∨ B.getD r 0 = colP P r c
end
end DL
namespace DL
open PySem PySem.Spec L2 Wv
def isNn : D → Bool
  | .non => true
  | _ => false
theorem Clash.nn {W : WT} {d : D} (h : Clash W d) : isND d .non = .ok (.bl (isNn d)) := by
  rcases h with ⟨rfl, _⟩ | ⟨p, _, q, _, _, _, rfl⟩ <;> rfl
theorem lcD_three {g : D → Ev → R Ev} {t : Ev → R Bool} {e : Ev → R D} {ρ r0 r1 r2 : Ev} {x0 x1 x2 y0 y1 y2 : D} (g0 : g x0 ρ = .ok r0) (g1 : g x1 ρ = .ok r1) (g2 : g x2 ρ = .ok r2) (t0 : t r0 = .ok true) (t1 : t r1 = .ok true) (t2 : t r2 = .ok true) (e0 : e r0 = .ok y0) (e1 : e r1 = .ok y1) (e2 : e r2 = .ok y2) : lcD g t e ρ [x0, x1, x2] = .ok [y0, y1, y2] := by
  refine lcD_mapE (l := [(x0, y0), (x1, y1), (x2, y2)]) (ea := Prod.fst) (h := Prod.snd) fun a ha => ?_
  simp only [List.mem_cons, List.not_mem_nil, or_false] at ha
  rcases ha with rfl | rfl | rfl
  · exact ⟨r0, g0, t0, e0⟩
  · exact ⟨r1, g1, t1, e1⟩
  · exact ⟨r2, g2, t2, e2⟩
section
variable {P : List (List Int)} {n : Nat}
theorem d_tries {t : Th} {W0 W1 W2 : WT} (w0 : m_ways_from [clD P, stE (t, 0)] = .ok (dctE W0)) (w1 : m_ways_from [clD P, stE (t, 1)] = .ok (dctE W1)) (w2 : m_ways_from [clD P, stE (t, 2)] = .ok (dctE W2)) :
    lcD (gN 0) mYes (mFn m_ways_from (mCons (mV 1) (mCons (mTup (mCons (mV 2) (mCons (mV 0) mNil))) mNil))) [none, some (clD P), some (thE t)] [.int 0, .int 1, .int 2] = .ok [dctE W0, dctE W1, dctE W2] := by
  have hh : ∀ {c : Int} {W : WT}, m_ways_from [clD P, stE (t, c)] = .ok (dctE W) → mFn m_ways_from (mCons (mV 1) (mCons (mTup (mCons (mV 2) (mCons (mV 0) mNil))) mNil)) [some (.int c), some (clD P), some (thE t)] = .ok (dctE W) := fun h =>
    v_fn (v_cons (v_var rfl) (v_cons (v_tup (v_cons (v_var rfl) (v_cons (v_var rfl) v_nil)) (Nat.le_of_ble_eq_true rfl)) v_nil)) h
  exact lcD_three rfl rfl rfl rfl rfl rfl (hh w0) (hh w1) (hh w2)
theorem d_knot {W0 W1 W2 : WT} {d0 d1 d2 : D} (c0 : m_clash [dctE W0] = .ok d0) (c1 : m_clash [dctE W1] = .ok d1) (c2 : m_clash [dctE W2] = .ok d2) : lcD (gN 0) mYes (mFn m_clash (mCons (mV 0) mNil)) [none] [dctE W0, dctE W1, dctE W2] = .ok [d0, d1, d2] :=
  lcD_three rfl rfl rfl rfl rfl rfl (v_fn (v_cons (v_var rfl) v_nil) c0) (v_fn (v_cons (v_var rfl) v_nil) c1) (v_fn (v_cons (v_var rfl) v_nil) c2)
theorem d_good {W0 W1 W2 : WT} {d0 d1 d2 : D} (c0 : m_clash [dctE W0] = .ok d0) (c1 : m_clash [dctE W1] = .ok d1) (c2 : m_clash [dctE W2] = .ok d2) (k0 : Clash W0 d0) (k1 : Clash W1 d1) (k2 : Clash W2 d2) :
    lcD (gN 0) (mTst (m2 (mFn m_clash (mCons (mV 0) mNil)) (mC .non) isND)) (mV 0) [none] [dctE W0, dctE W1, dctE W2] = .ok (([(W0, d0), (W1, d1), (W2, d2)].filter fun a => isNn a.2).map fun a => dctE a.1) := by
  rw [show [dctE W0, dctE W1, dctE W2] = [(W0, d0), (W1, d1), (W2, d2)].map (fun a => dctE a.1) from rfl]
  refine lcD_filterE fun a ha => ⟨[some (dctE a.1)], rfl, ?_, fun _ => v_var rfl⟩
  simp only [List.mem_cons, List.not_mem_nil, or_false] at ha
  rcases ha with rfl | rfl | rfl
  · exact v_tst (v_2 (v_fn (v_cons (v_var rfl) v_nil) c0) v_c k0.nn)
  · exact v_tst (v_2 (v_fn (v_cons (v_var rfl) v_nil) c1) v_c k1.nn)
  · exact v_tst (v_2 (v_fn (v_cons (v_var rfl) v_nil) c2) v_c k2.nn)
theorem col_lc {G : GT} {b : Bool} {m : Nat} (h : ∀ k, k < m → (gAt G (b, k)).isSome = true) : lcD (gN 0) mYes (m2 (mV 1) (mTup (mCons (mC (.str (nmE b))) (mCons (mV 0) mNil))) ixK) [none, some (gvE G)] (rangeD 0 m) = .ok (((List.range m).map fun k => (gAt G (b, k)).getD 0).map D.int) := by
  unfold rangeD
  rw [List.map_map]
  refine lcD_mapE fun k hk => ⟨_, rfl, rfl, v_2 (v_var rfl) (v_tup (v_cons v_c (v_cons (v_var rfl) v_nil)) (Nat.le_of_ble_eq_true rfl)) ?_⟩
  have hk := h k (List.mem_range.mp hk)
  obtain ⟨c, hc⟩ := Option.isSome_iff_exists.mp hk
  show ixK (gvE G) (.tup [.str (nmE b), .int (0 + (k : Int))]) = .ok (.int ((gAt G (b, k)).getD 0))
  rw [Int.zero_add, hc]
  exact get_G hc
theorem d_colours (hP : Pic P n) : ∃ d, m_colours_for [clD P] = .ok d ∧ Answer P n d := by
  have hR := hP.toRect
  have r16 := hR.r16
  have n16 := hR.n16
  have lth : (ths n P.length).length ≤ 32 := by
    unfold ths
    rw [List.length_append, List.length_map, List.length_map, List.length_range, List.length_range]
    omega
  refine w_runE (w_set v_c ?_)
  refine w_forG (ds := (ths n P.length).map thE) (fun i ρ => ∃ G v2 v3 v4 v5, ρ = [some (clD P), some (gvE G), v2, v3, v4, v5, none, none] ∧ Gv P n (gAt G) ∧ (∀ t ∈ (ths n P.length).take i, (gAt G t).isSome = true) ∧ G.length ≤ 96 * i)
    (v_items (v_fn (v_cons (v_var rfl) v_nil) (d_threadsR hR)) (by rw [← ths_is]; rfl)) ⟨[], none, none, none, none, rfl, ⟨fun t c h => (nomatch h), fun t c h => (nomatch h)⟩, (fun t ht => by rw [List.take_zero] at ht; cases ht), Nat.zero_le _⟩ ?_ ?_
  · rintro i d ρ hd ⟨G, v2, v3, v4, v5, rfl, hG, hT, hL⟩
    rw [List.getElem?_map] at hd
    cases hq : (ths n P.length)[i]? with
    | none =>
      rw [hq] at hd
      cases hd
    | some t =>
      rw [hq] at hd
      cases hd
      have ht : t ∈ ths n P.length := List.mem_of_getElem? hq
      have hi : i < 32 := by
        have := (List.getElem?_eq_some_iff.mp hq).1
        omega
      have tk : ∀ {u}, u ∈ (ths n P.length).take (i + 1) → u ∈ (ths n P.length).take i ∨ u = t := fun {b} hb => by
        rw [List.take_succ, hq] at hb
        rcases List.mem_append.mp hb with h | h
        · exact .inl h
        · exact .inr (by simpa using h)
      refine ⟨_, rfl, w_if1 (v_tst (v_2 (v_var rfl) (v_var rfl) (in_G t G))) (fun hn => ?_) (fun hn => ?_)⟩
      · have hn : gAt G t = none := by
          rw [if_pos rfl] at hn
          simpa using hn
        have ok : ∀ c : Int, 0 ≤ c → c < 3 → Sok P n (t, c) := fun c h1 h2 => ⟨ht, h1, h2⟩
        obtain ⟨W0, w0, y0⟩ := d_ways hP (ok 0 (by decide) (by decide))
        obtain ⟨W1, w1, y1⟩ := d_ways hP (ok 1 (by decide) (by decide))
        obtain ⟨W2, w2, y2⟩ := d_ways hP (ok 2 (by decide) (by decide))
        obtain ⟨d0, c0, k0⟩ := d_clash hR y0
        obtain ⟨d1, c1, k1⟩ := d_clash hR y1
        obtain ⟨d2, c2, k2⟩ := d_clash hR y2
        have tries := d_tries w0 w1 w2
        have mems : ∀ a ∈ [(W0, d0), (W1, d1), (W2, d2)], m_clash [dctE a.1] = .ok a.2 ∧ Clash a.1 a.2 ∧ ∃ c, Sok P n (t, c) ∧ Wy P n (t, c) (a.1.map (·.1)) [] a.1 := fun a ha => by
          simp only [List.mem_cons, List.not_mem_nil, or_false] at ha
          rcases ha with rfl | rfl | rfl
          · exact ⟨c0, k0, 0, ok 0 (by decide) (by decide), y0⟩
          · exact ⟨c1, k1, 1, ok 1 (by decide) (by decide), y1⟩
          · exact ⟨c2, k2, 2, ok 2 (by decide) (by decide), y2⟩
        have good := d_good c0 c1 c2 k0 k1 k2
        have knot := d_knot c0 c1 c2
        generalize hgd : ([(W0, d0), (W1, d1), (W2, d2)].filter fun a => isNn a.2) = gd at good
        refine w_set (v_lc (v_items v_c rfl) (Nat.le_of_ble_eq_true rfl) tries) (w_set (v_lc (v_items (v_var rfl) rfl) (Nat.le_of_ble_eq_true rfl) good) (w_if (b := (gd.map fun a => dctE a.1).isEmpty) (v_tst (v_2 (v_var rfl) (v_lst v_nil (Nat.le_of_ble_eq_true rfl)) rfl)) (fun hb => ?_) (fun hb => ?_)))
        · cases gd with
          | cons a gd => cases hb
          | nil =>
            have no : ∀ a ∈ [(W0, d0), (W1, d1), (W2, d2)], isNn a.2 = false := fun a ha => by
              have := List.filter_eq_nil_iff.mp hgd a ha
              simpa using this
            have cl : ∀ {W d}, isNn d = false → Clash W d → ∃ p ∈ W, ∃ q ∈ W, p.1.1 = q.1.1 ∧ p.1.2 ≠ q.1.2 ∧ d = .tup [pthE p.2, pthE q.2] := fun {W d} h1 h2 => by
              rcases h2 with ⟨rfl, _⟩ | h2
              · cases h1
              · exact h2
            obtain ⟨p0, a0, q0, b0, e0, f0, rfl⟩ := cl (no (W0, d0) (by simp)) k0
            obtain ⟨p1, a1, q1, b1, e1, f1, rfl⟩ := cl (no (W1, d1) (by simp)) k1
            obtain ⟨p2, a2, q2, b2, e2, f2, rfl⟩ := cl (no (W2, d2) (by simp)) k2
            exact w_seqret (v_tup (v_cons v_c (v_cons (v_lc (v_items (v_var rfl) rfl) (Nat.le_of_ble_eq_true rfl) knot) v_nil)) (Nat.le_of_ble_eq_true rfl)) (.inr (.inl ⟨_, rfl, _, rfl, .inl ⟨_, rfl, t, W0, W1, W2, p0, q0, p1, q1, p2, q2, ht, rfl, ⟨y0, a0, b0, e0, f0⟩, ⟨y1, a1, b1, e1, f1⟩, ⟨y2, a2, b2, e2, f2⟩⟩⟩))
        · cases gd with
          | nil => cases hb
          | cons a gd =>
            have ha : a ∈ [(W0, d0), (W1, d1), (W2, d2)].filter fun a => isNn a.2 := by rw [hgd]; exact List.mem_cons_self
            obtain ⟨ha1, ha2⟩ := List.mem_filter.mp ha
            obtain ⟨_, hc, c, hok, hW⟩ := mems a ha1
            obtain ⟨W, dW⟩ := a
            have hnd : ((W.map (·.1)).map (·.1)).Nodup := by
              rcases hc with ⟨_, h⟩ | ⟨p, _, q, _, _, _, e⟩
              · rw [List.map_map]
                exact h
              · have e : dW = .tup _ := e
                rw [e] at ha2
                cases ha2
            have fewW : W.length ≤ 96 := hW.few hR
            refine w_nil (w_for1 (ds := (W.map (·.1)).map stE) (fun j ρ => ∃ G' v5, ρ = [some (clD P), some (gvE G'), some (thE t), some (.lst [dctE W0, dctE W1, dctE W2]), some (.lst (((W, dW) :: gd).map fun a => dctE a.1)), v5, none, none] ∧ (∀ u, gAt G' u = gJoin (gAt G) ((W.map (·.1)).take j) u) ∧ G'.length ≤ 96 * i + j)
              (v_items (v_fn (v_cons (v_2 (v_var rfl) v_c (l_ixL (atI_nat (j := 0) rfl))) v_nil) (show keysD [dctE W] = .ok (.lst ((W.map (·.1)).map stE)) by rw [List.map_map]; rfl)) rfl) ⟨G, v5, rfl, fun u => by rw [List.take_zero]; rfl, hL⟩ ?_ ?_)
            · rintro j d ρ hd ⟨G', v5, rfl, hG', hL'⟩
              rw [List.getElem?_map] at hd
              cases hq2 : (W.map (·.1))[j]? with
              | none =>
                rw [hq2] at hd
                cases hd
              | some s =>
                rw [hq2] at hd
                cases hd
                have hj : j < 96 := by
                  have := (List.getElem?_eq_some_iff.mp hq2).1
                  rw [List.length_map] at this
                  omega
                have htk : (W.map (·.1)).take (j + 1) = (W.map (·.1)).take j ++ [s] := by rw [List.take_succ, hq2]; rfl
                have hns : s.1 ∉ ((W.map (·.1)).take j).map (·.1) := by
                  have hn2 : (((W.map (·.1)).take (j + 1)).map (·.1)).Nodup := by
                    rw [List.map_take]
                    exact List.Nodup.sublist (List.take_sublist _ _) hnd
                  rw [htk, List.map_append, List.nodup_append] at hn2
                  intro hm
                  exact hn2.2.2 _ hm s.1 (by simp) rfl
                refine ⟨_, rfl, w_put1 (ks := G'.map fun p => thE p.1) (vs := G'.map fun p => .int p.2) rfl (v_2 (v_var rfl) v_c ix_0) (v_2 (v_var rfl) v_c ix_1) (ok_th s.1) (by rw [List.length_map]; omega) ⟨_, .inl rfl, putT s.1 s.2 G', some (stE s), ?_, fun u => ?_, ?_⟩⟩
                · rw [put_G]
                  rfl
                · rw [gAt_put, htk, join_snoc hns, hG']
                · have := len_putT s.1 s.2 G'
                  omega
            · rintro ρ' ⟨G', v5, rfl, hG', hL'⟩
              rw [List.length_map, List.take_length] at hG'
              rw [List.length_map, List.length_map] at hL'
              have eG : gAt G' = gJoin (gAt G) (W.map (·.1)) := funext hG'
              refine .inl ⟨_, .inl rfl, G', _, _, _, _, rfl, ?_, fun u hu => ?_, by omega⟩
              · rw [eG]
                exact join_Gv hG hW hok hn hnd
              · rw [eG]
                by_cases q : u ∈ (W.map (·.1)).map (·.1)
                · obtain ⟨s, hs, rfl⟩ := List.mem_map.mp q
                  rw [join_in hnd hs]
                  rfl
                · rw [join_out q]
                  rcases tk hu with h | h
                  · exact hT u h
                  · refine absurd ?_ q
                    rw [h]
                    exact List.mem_map.mpr ⟨(t, c), hW.fst, rfl⟩
      · have hn : (gAt G t).isSome = true := by
          rw [if_pos rfl] at hn
          simpa using hn
        refine w_nil1 (.inl ⟨_, .inl rfl, G, _, _, _, _, rfl, hG, fun u hu => ?_, by omega⟩)
        rcases tk hu with h | h
        · exact hT u h
        · rw [h]
          exact hn
  · rintro ρ' ⟨G, v2, v3, v4, v5, rfl, hG, hT, hL⟩
    rw [List.length_map, List.take_length] at hT
    have hw : ∀ k, k < n → (gAt G (false, k)).isSome = true := fun k hk => hT _ (mem_ths.mpr (.inl ⟨rfl, hk⟩))
    have hf : ∀ k, k < P.length → (gAt G (true, k)).isSome = true := fun k hk => hT _ (mem_ths.mpr (.inr ⟨rfl, hk⟩))
    refine w_set (v_lc (v_it (v_cons (v_wideR hR rfl) v_nil) (l_ran1 (by omega) (by omega))) (by rw [rangeD_len]; omega) (col_lc (b := false) hw)) (w_set (v_lc (v_it (v_cons (v_high rfl) v_nil) (l_ran1 (by omega) (by omega))) (by rw [rangeD_len]; omega) (col_lc (b := true) hf)) (w_ret (v_tup (v_cons v_c (v_cons (v_var rfl) (v_cons (v_var rfl) v_nil))) (Nat.le_of_ble_eq_true rfl)) ⟨_, rfl, .inr ⟨(List.range n).map fun k => (gAt G (false, k)).getD 0, (List.range P.length).map fun k => (gAt G (true, k)).getD 0, rfl, ?_, ?_, fun r c hr hc => ?_⟩⟩))
    · refine ⟨by rw [List.length_map, List.length_range], fun c hc => ?_⟩
      obtain ⟨k, hk, rfl⟩ := List.mem_map.mp hc
      obtain ⟨x, hx⟩ := Option.isSome_iff_exists.mp (hw k (List.mem_range.mp hk))
      rw [hx]
      exact (hG.ok _ _ hx).2
    · refine ⟨by rw [List.length_map, List.length_range], fun c hc => ?_⟩
      obtain ⟨k, hk, rfl⟩ := List.mem_map.mp hc
      obtain ⟨x, hx⟩ := Option.isSome_iff_exists.mp (hf k (List.mem_range.mp hk))
      rw [hx]
      exact (hG.ok _ _ hx).2
    · obtain ⟨x, hx⟩ := Option.isSome_iff_exists.mp (hw c hc)
      obtain ⟨y, hy⟩ := Option.isSome_iff_exists.mp (hf r hr)
      have ex : ((List.range n).map fun k => (gAt G (false, k)).getD 0).getD c 0 = x := by
        rw [List.getD_eq_getElem?_getD, List.getElem?_map, List.getElem?_eq_getElem (by rw [List.length_range]; exact hc), List.getElem_range]
        show (gAt G (false, c)).getD 0 = x
        rw [hx]
        rfl
      have ey : ((List.range P.length).map fun k => (gAt G (true, k)).getD 0).getD r 0 = y := by
        rw [List.getD_eq_getElem?_getD, List.getElem?_map, List.getElem?_eq_getElem (by rw [List.length_range]; exact hr), List.getElem_range]
        show (gAt G (true, r)).getD 0 = y
        rw [hy]
        rfl
      rw [ex, ey]
      by_cases q : x = colP P r c
      · exact .inl q
      · have := hG.cl _ _ hx ((true, r), colP P r c) (mem_led.mpr ⟨rfl, mem_ths.mpr (.inr ⟨rfl, hr⟩), rfl, fun e => q e.symm⟩)
        rw [hy] at this
        exact .inr (Option.some.inj this)
end
end DL
namespace DL
open PySem PySem.Spec L2 Wv
section
variable {rows : List (List Int)} {n : Nat}
theorem d_alift (hR : Rect rows n) : ((clsC rows n).length = 1 ∧ m_a_lift [clD rows] = .ok .non) ∨ ((clsC rows n).length ≠ 1 ∧ ∃ K0 rest, srtT (clsC rows n) = K0 :: rest ∧ m_a_lift [clD rows] = .ok (.lst ((layT rows n K0).map thE))) := by
  have hd := d_layersE hR
  have hl := (srt_perm (clsC rows n)).length_eq
  have len : lenD [.lst ((srtT (clsC rows n)).map fun k => D.lst ((layT rows n k).map thE))] = .ok (.int (clsC rows n).length) := by
    show R.ok (D.int ((((srtT (clsC rows n)).map fun k => D.lst ((layT rows n k).map thE)).length : Nat) : Int)) = _
    rw [List.length_map, hl]
  by_cases h : (clsC rows n).length = 1
  · exact .inl ⟨h, w_run (w_set (v_fn (v_cons (v_var rfl) v_nil) hd) (w_if (b := true) (v_tst (v_eq (v_2 (v_fn (v_cons (v_var rfl) v_nil) len) v_c (l_eqI _ _)) (by rw [decide_eq_true (by omega)]))) (fun _ => w_seqret v_c rfl) fun z => nomatch z))⟩
  · refine .inr ⟨h, ?_⟩
    cases hs : srtT (clsC rows n) with
    | nil =>
      exfalso
      have m0 : ((false, 0) : Th) ∈ ths n rows.length := mem_ths.mpr (.inl ⟨rfl, by have := hR.n1; show 0 < n; omega⟩)
      have := ((clsL_cls (lf rows n) (ths n rows.length)).mem _).mpr ⟨_, m0, rfl⟩
      have := (srt_perm (clsC rows n)).mem_iff.mpr this
      rw [hs] at this
      cases this
    | cons K0 rest =>
      rw [hs] at hd len
      exact ⟨K0, rest, rfl, w_run (w_set (v_fn (v_cons (v_var rfl) v_nil) hd) (w_if (b := false) (v_tst (v_eq (v_2 (v_fn (v_cons (v_var rfl) v_nil) len) v_c (l_eqI _ _)) (by rw [decide_eq_false (by omega)]))) (fun z => nomatch z) fun _ => w_nil (w_ret (v_2 (v_var rfl) v_c (l_ixL (atI_nat (j := 0) rfl))) rfl)))⟩
theorem noLs_map {A : Type} {f : A → D} (h : ∀ a, noL (f a) = true) : ∀ l : List A, noL.noLs (l.map f) = true
  | [] => by rw [List.map_nil, noL.noLs]
  | a :: l => by
    rw [List.map_cons, noL.noLs, h a, noLs_map h l]
    rfl
theorem noL_th (t : Th) : noL (thE t) = true := by simp [thE, noL, noL.noLs]
theorem noL_st (s : Stp) : noL (stE s) = true := by simp [stE, noL, noL.noLs, noL_th]
theorem noL_int (i : Int) : noL (.int i) = true := by simp [noL]
theorem noL_row (r : List Int) : noL (rowD r) = true := by
  show noL (.tup (r.map D.int)) = true
  rw [noL]
  exact noLs_map noL_int r
theorem noL_cl (rows : List (List Int)) : noL (clD rows) = true := by
  show noL (.tup (rows.map rowD)) = true
  rw [noL]
  exact noLs_map noL_row rows
theorem fit_thl (l : List Th) : fit 2 (.lst (l.map thE)) = true := fit_all fun x hx => by
  obtain ⟨t, _, rfl⟩ := List.mem_map.mp hx
  exact fit_th t
theorem fit_pth3 (l : List Stp) : fit 3 (pthE l) = true := fit_all fun x hx => by
  obtain ⟨s, _, rfl⟩ := List.mem_map.mp hx
  exact fit_st s
theorem third {P : List (List Int)} {n : Nat} (hP : Pic P n) : ∃ c l3, m_colours_for [clD P] = .ok c ∧ ixD c (.int 1) = .ok (.lst l3) ∧ tame l3 ∧ fit 5 (.lst l3) = true := by
  obtain ⟨d, h1, h2⟩ := d_colours hP
  rcases h2 with ⟨k, rfl, hk⟩ | ⟨A, B, rfl, _⟩
  · obtain ⟨t, W0, W1, W2, p0, q0, p1, q1, p2, q2, _, rfl, _⟩ := hk
    refine ⟨_, _, h1, rfl, .inr ⟨[(p0.2.map stE, q0.2.map stE), (p1.2.map stE, q1.2.map stE), (p2.2.map stE, q2.2.map stE)], rfl, fun p hp => ?_⟩, ?_⟩
    · rcases List.mem_cons.mp hp with rfl | hp
      · exact ⟨noLs_map noL_st _, noLs_map noL_st _⟩
      · rcases List.mem_cons.mp hp with rfl | hp
        · exact ⟨noLs_map noL_st _, noLs_map noL_st _⟩
        · rw [List.mem_singleton.mp hp]
          exact ⟨noLs_map noL_st _, noLs_map noL_st _⟩
    · show (fit 4 (.tup [pthE p0.2, pthE q0.2]) && (fit 4 (.tup [pthE p1.2, pthE q1.2]) && (fit 4 (.tup [pthE p2.2, pthE q2.2]) && true))) = true
      have two : ∀ a b : List Stp, fit 4 (.tup [pthE a, pthE b]) = true := fun a b => by
        show (fit 3 (pthE a) && (fit 3 (pthE b) && true)) = true
        rw [fit_pth3, fit_pth3]
        rfl
      rw [two, two, two]
      rfl
  · exact ⟨_, _, h1, rfl, .inl (noLs_map noL_int A), fit_mono (fit_ls A) (by decide)⟩
theorem fives (hC : Cloth rows n) : ∃ l3 d4, Five m_threads m_layers m_colours_for m_a_lift m_lifts_with (clD rows) ((ths n rows.length).map thE) ((srtT (clsC rows n)).map fun k => (layT rows n k).map thE) ((lf rows n (false, 0)).map thE) l3 d4 ∧ fit 5 (.lst l3) = true ∧ (d4 = .non ∨ ∃ l4 : List Th, d4 = .lst (l4.map thE)) := by
  have hR := hC.rect
  obtain ⟨c, l3, c1, c2, c3, c4⟩ := third hC.pic
  have m0 : ((false, 0) : Th) ∈ ths n rows.length := mem_ths.mpr (.inl ⟨rfl, by have := hR.n1; show 0 < n; omega⟩)
  have e2 := d_lifts hR m0
  rw [show thE (false, 0) = .tup [.str "warp", .int 0] from rfl] at e2
  have e1 := d_layersE hR
  rw [show (fun k => D.lst ((layT rows n k).map thE)) = D.lst ∘ fun k => (layT rows n k).map thE from rfl, ← List.map_map] at e1
  have n1 : ∀ x ∈ (srtT (clsC rows n)).map fun k => (layT rows n k).map thE, noL.noLs x = true := fun x hx => by
    obtain ⟨k, _, rfl⟩ := List.mem_map.mp hx
    exact noLs_map noL_th _
  rcases d_alift hR with ⟨_, h4⟩ | ⟨_, K0, _, _, h4⟩
  · exact ⟨l3, .non, ⟨noL_cl rows, d_ths hR, e1, e2, ⟨c, c1, c2⟩, h4, noLs_map noL_th _, n1, noLs_map noL_th _, c3, .inl rfl⟩, c4, .inl rfl⟩
  · exact ⟨l3, _, ⟨noL_cl rows, d_ths hR, e1, e2, ⟨c, c1, c2⟩, h4, noLs_map noL_th _, n1, noLs_map noL_th _, c3, .inr ⟨_, rfl, noLs_map noL_th _⟩⟩, c4, .inr ⟨_, rfl⟩⟩
end
section
variable {cl d4 : D} {l0 l2 l3 : List D} {l1 : List (List D)}
theorem d_llists (F : Five m_threads m_layers m_colours_for m_a_lift m_lifts_with cl l0 l1 l2 l3 d4) : m__law_lists [cl] = .ok (.lst ((rowsOf l0 l1 l2 l3 d4).map D.lst)) := by
  obtain ⟨c, e3, e3'⟩ := F.e3
  refine w_run (w_set (v_lst (v_cons (v_fn (v_cons (v_var rfl) v_nil) F.e0) (v_cons (v_fn (v_cons (v_var rfl) v_nil) F.e1) (v_cons (v_fn (v_cons (v_var rfl) (v_cons (v_tup (v_cons v_c (v_cons v_c v_nil)) (Nat.le_of_ble_eq_true rfl)) v_nil)) F.e2) (v_cons (v_2 (v_fn (v_cons (v_var rfl) v_nil) e3) v_c e3') v_nil)))) (Nat.le_of_ble_eq_true rfl)) (w_set (v_fn (v_cons (v_var rfl) v_nil) F.e4) ?_))
  rcases F.n4 with rfl | ⟨l4, rfl, _⟩
  · exact w_if (b := false) (v_tst (v_2 (v_var rfl) v_c rfl)) (fun z => nomatch z) fun _ => w_nil (w_ret (v_var rfl) rfl)
  · exact w_if (b := true) (v_tst (v_2 (v_var rfl) v_c rfl)) (fun _ => w_app rfl (v_var rfl) (Nat.le_of_ble_eq_true rfl) (w_ret (v_var rfl) rfl)) fun z => nomatch z
theorem d_inner (F : Five m_threads m_layers m_colours_for m_a_lift m_lifts_with cl l0 l1 l2 l3 d4) (hl : l1.length ≤ 1000) : mInner [none, some cl, none, none, none, none] = .ok (.lst (l1.map D.lst)) :=
  v_lc (v_items (v_fn (v_cons (v_var rfl) v_nil) F.e1) rfl) (by rw [List.length_map]; omega) (lcD_mapE (ea := D.lst) (h := D.lst) fun l _ => ⟨_, rfl, rfl, v_fn (v_cons (v_var rfl) v_nil) rfl⟩)
end
end DL
namespace DL
open PySem PySem.Spec L2 Wv
section
variable {rows : List (List Int)} {n : Nat}
theorem law_core (ns : List Int) (hC : Cloth rows n) (dc : m__law_cloth [.scr ns, .int 0] = .ok (clD rows)) : m_law [.scr ns] = .ok (.bl true) := by
  have hR := hC.rect
  obtain ⟨l3, d4, F, f3, f4⟩ := fives hC
  have m0 : ((false, 0) : Th) ∈ ths n rows.length := mem_ths.mpr (.inl ⟨rfl, by have := hR.n1; show 0 < n; omega⟩)
  have mlf : ((false, 0) : Th) ∈ lf rows n (false, 0) := mem_lft.mpr ⟨m0, .one⟩
  have fs : ∀ l : List Th, fit 7 (.lst (l.map thE)) = true := fun l => fit_mono (fit_thl l) (by decide)
  have few : ((srtT (clsC rows n)).map fun k => (layT rows n k).map thE).length ≤ 1000 := by
    rw [List.length_map, (srt_perm (clsC rows n)).length_eq]
    have := clsC_len hR
    omega
  have ft1 : fit 7 (.lst (((srtT (clsC rows n)).map fun k => (layT rows n k).map thE).map D.lst)) = true := fit_all fun x hx => by
    obtain ⟨y, hy, rfl⟩ := List.mem_map.mp hx
    obtain ⟨k, _, rfl⟩ := List.mem_map.mp hy
    exact fit_mono (fit_thl _) (by decide)
  have ft : fit 8 (.lst ((rowsOf ((ths n rows.length).map thE) ((srtT (clsC rows n)).map fun k => (layT rows n k).map thE) ((lf rows n (false, 0)).map thE) l3 d4).map D.lst)) = true := fit_all fun x hx => by
    obtain ⟨y, hy, rfl⟩ := List.mem_map.mp hx
    rcases List.mem_append.mp hy with hy | hy
    · rcases List.mem_cons.mp hy with rfl | hy
      · exact fs _
      · rcases List.mem_cons.mp hy with rfl | hy
        · exact ft1
        · rcases List.mem_cons.mp hy with rfl | hy
          · exact fs _
          · rw [List.mem_singleton.mp hy]
            exact fit_mono f3 (by decide)
    · rcases f4 with rfl | ⟨l4, rfl⟩
      · cases hy
      · rw [List.mem_singleton.mp hy]
        exact fs _
  have len0 : lenD [.lst ((ths n rows.length).map thE)] = .ok (.int ((n + rows.length : Nat) : Int)) := by
    show R.ok (D.int ((((ths n rows.length).map thE).length : Nat) : Int)) = _
    rw [List.length_map, ths_len]
  have inn : inQ true (thE (false, 0)) (.lst ((lf rows n (false, 0)).map thE)) = .ok (.bl false) := by
    rw [l_notInL (fit_mono (fit_th _) (by decide)) (fit_ths _), any_th, decide_eq_true mlf]
    rfl
  rw [show thE (false, 0) = .tup [.str "warp", .int 0] from rfl] at inn
  refine w_run (w_set (v_fn (v_cons (v_var rfl) (v_cons v_c v_nil)) dc) ?_)
  have big : sBig m_threads m_layers m_lifts_with m_colours_for m_a_lift mInner kTail [some (.scr ns), some (clD rows), none, none, none, none] = _ := big_is ⟨_, _, _, _, _, _, _, _, rfl, F, d_inner F few, rfl⟩
  show Go (sBig m_threads m_layers m_lifts_with m_colours_for m_a_lift mInner kTail [some (.scr ns), some (clD rows), none, none, none, none]) _
  rw [big]
  refine w_if (b := false) (v_eqT (v_tor (b := false) (c := false) (v_tst (v_eq (v_2 (v_fn (v_cons (v_2 (v_var rfl) v_c (l_ixL (atI_nat (j := 0) rfl))) v_nil) len0) (v_2 (v_high rfl) (v_wideR hR rfl) rfl) (l_neI _ _)) (by rw [decide_eq_true (by omega)]; rfl))) fun _ => v_tst (v_2 (v_tup (v_cons v_c (v_cons v_c v_nil)) (Nat.le_of_ble_eq_true rfl)) (v_2 (v_var rfl) v_c (l_ixL (atI_nat (j := 2) rfl))) inn)) rfl) (fun z => nomatch z) fun _ => w_nil ?_
  exact w_ret (v_eq (v_and (b := true) (c := true) (v_2 (v_fn (v_cons (v_var rfl) v_nil) (d_llists F)) (v_var rfl) (l_eqS ft)) fun _ => v_2 (v_fn (v_cons (v_var rfl) v_nil) F.e1) (v_var rfl) (l_eqS (fit_mono ft1 (by decide)))) rfl) rfl
end
theorem law_true (ns : List Int) (_ : ns.length ≤ 63) : m_law [.scr ns] = .ok (.bl true) := law_core ns (clothM_ok ns 0) (d_cloth (by decide))
end DL
namespace DL
open PySem L2 Wv
set_option maxHeartbeats 4000000 in
theorem all_mk {l : PySem.W.OpenLaw} {w : World} {K : PySem.W.Frag} {h : Heap} {mg : Str → Option Value} {fa : Addr} (X : K.In h) (G : h.Ns mainGlobals mg) (hfa : mg "law" = some (.ref fa))
    {fq0 : Addr} {odq0 anq0 : Option Addr} {slq0 : Array (Option Value)} {ocq0 kVq0 dcq0 pmq0 cdq0 ctq0 : Value}
    {fq1 : Addr} {odq1 anq1 : Option Addr} {slq1 : Array (Option Value)} {ocq1 kVq1 dcq1 pmq1 cdq1 ctq1 : Value}
    {fq2 : Addr} {odq2 anq2 : Option Addr} {slq2 : Array (Option Value)} {ocq2 kVq2 dcq2 pmq2 cdq2 ctq2 : Value}
    {fq3 : Addr} {odq3 anq3 : Option Addr} {slq3 : Array (Option Value)} {ocq3 kVq3 dcq3 pmq3 cdq3 ctq3 : Value}
    {fq4 : Addr} {odq4 anq4 : Option Addr} {slq4 : Array (Option Value)} {ocq4 kVq4 dcq4 pmq4 cdq4 ctq4 : Value}
    {fq5 : Addr} {odq5 anq5 : Option Addr} {slq5 : Array (Option Value)} {ocq5 kVq5 dcq5 pmq5 cdq5 ctq5 : Value}
    {fq6 : Addr} {odq6 anq6 : Option Addr} {slq6 : Array (Option Value)} {ocq6 kVq6 dcq6 pmq6 cdq6 ctq6 : Value}
    {fq7 : Addr} {odq7 anq7 : Option Addr} {slq7 : Array (Option Value)} {ocq7 kVq7 dcq7 pmq7 cdq7 ctq7 : Value}
    {fq8 : Addr} {odq8 anq8 : Option Addr} {slq8 : Array (Option Value)} {ocq8 kVq8 dcq8 pmq8 cdq8 ctq8 : Value}
    {fq9 : Addr} {odq9 anq9 : Option Addr} {slq9 : Array (Option Value)} {ocq9 kVq9 dcq9 pmq9 cdq9 ctq9 : Value}
    {fq10 : Addr} {odq10 anq10 : Option Addr} {slq10 : Array (Option Value)} {ocq10 kVq10 dcq10 pmq10 cdq10 ctq10 : Value}
    {fq11 : Addr} {odq11 anq11 : Option Addr} {slq11 : Array (Option Value)} {ocq11 kVq11 dcq11 pmq11 cdq11 ctq11 : Value}
    {fq12 : Addr} {odq12 anq12 : Option Addr} {slq12 : Array (Option Value)} {ocq12 kVq12 dcq12 pmq12 cdq12 ctq12 : Value}
    {fq13 : Addr} {odq13 anq13 : Option Addr} {slq13 : Array (Option Value)} {ocq13 kVq13 dcq13 pmq13 cdq13 ctq13 : Value}
    {fq14 : Addr} {odq14 anq14 : Option Addr} {slq14 : Array (Option Value)} {ocq14 kVq14 dcq14 pmq14 cdq14 ctq14 : Value}
    {fq15 : Addr} {odq15 anq15 : Option Addr} {slq15 : Array (Option Value)} {ocq15 kVq15 dcq15 pmq15 cdq15 ctq15 : Value}
    {fq16 : Addr} {odq16 anq16 : Option Addr} {slq16 : Array (Option Value)} {ocq16 kVq16 dcq16 pmq16 cdq16 ctq16 : Value}
    {fq17 : Addr} {odq17 anq17 : Option Addr} {slq17 : Array (Option Value)} {ocq17 kVq17 dcq17 pmq17 cdq17 ctq17 : Value}
    {fq18 : Addr} {odq18 anq18 : Option Addr} {slq18 : Array (Option Value)} {ocq18 kVq18 dcq18 pmq18 cdq18 ctq18 : Value}
    {fq19 : Addr} {odq19 anq19 : Option Addr} {slq19 : Array (Option Value)} {ocq19 kVq19 dcq19 pmq19 cdq19 ctq19 : Value}
    {adCOLOURS : Addr} {ntCOLOURS : Nat} {sltCOLOURS : Array (Option Value)} {tkCOLOURS0 : Tok} {tkCOLOURS1 : Tok} {tkCOLOURS2 : Tok}
    {aNoThread : Addr}
    (aq0 : PySem.W.nsIn K mainGlobals "is_number_below" = some (some (.ref fq0)))
    (lq0 : K.lookup fq0 = some ⟨ocq0, odq0, .func (PySem.W.fnOf "is_number_below" "is_number_below" (defArgs s_is_number_below) (defBody s_is_number_below) (defScope s_is_number_below) .none kVq0 dcq0 pmq0 anq0 cdq0 ctq0), slq0⟩)
    (cq0 : PySem.W.codeIn K cdq0 "is_number_below" = true)
    (kq0 : PySem.W.keepIn K (.ref fq0) = true)
    (aq1 : PySem.W.nsIn K mainGlobals "threads" = some (some (.ref fq1)))
    (lq1 : K.lookup fq1 = some ⟨ocq1, odq1, .func (PySem.W.fnOf "threads" "threads" (defArgs s_threads) (defBody s_threads) (defScope s_threads) .none kVq1 dcq1 pmq1 anq1 cdq1 ctq1), slq1⟩)
    (cq1 : PySem.W.codeIn K cdq1 "threads" = true)
    (kq1 : PySem.W.keepIn K (.ref fq1) = true)
    (aq2 : PySem.W.nsIn K mainGlobals "is_thread" = some (some (.ref fq2)))
    (lq2 : K.lookup fq2 = some ⟨ocq2, odq2, .func (PySem.W.fnOf "is_thread" "is_thread" (defArgs s_is_thread) (defBody s_is_thread) (defScope s_is_thread) .none kVq2 dcq2 pmq2 anq2 cdq2 ctq2), slq2⟩)
    (cq2 : PySem.W.codeIn K cdq2 "is_thread" = true)
    (kq2 : PySem.W.keepIn K (.ref fq2) = true)
    (aq3 : PySem.W.nsIn K mainGlobals "checked_thread" = some (some (.ref fq3)))
    (lq3 : K.lookup fq3 = some ⟨ocq3, odq3, .func (PySem.W.fnOf "checked_thread" "checked_thread" (defArgs s_checked_thread) (defBody s_checked_thread) (defScope s_checked_thread) .none kVq3 dcq3 pmq3 anq3 cdq3 ctq3), slq3⟩)
    (cq3 : PySem.W.codeIn K cdq3 "checked_thread" = true)
    (kq3 : PySem.W.keepIn K (.ref fq3) = true)
    (aq4 : PySem.W.nsIn K mainGlobals "above" = some (some (.ref fq4)))
    (lq4 : K.lookup fq4 = some ⟨ocq4, odq4, .func (PySem.W.fnOf "above" "above" (defArgs s_above) (defBody s_above) (defScope s_above) .none kVq4 dcq4 pmq4 anq4 cdq4 ctq4), slq4⟩)
    (cq4 : PySem.W.codeIn K cdq4 "above" = true)
    (kq4 : PySem.W.keepIn K (.ref fq4) = true)
    (aq5 : PySem.W.nsIn K mainGlobals "lying_above" = some (some (.ref fq5)))
    (lq5 : K.lookup fq5 = some ⟨ocq5, odq5, .func (PySem.W.fnOf "lying_above" "lying_above" (defArgs s_lying_above) (defBody s_lying_above) (defScope s_lying_above) .none kVq5 dcq5 pmq5 anq5 cdq5 ctq5), slq5⟩)
    (cq5 : PySem.W.codeIn K cdq5 "lying_above" = true)
    (kq5 : PySem.W.keepIn K (.ref fq5) = true)
    (aq6 : PySem.W.nsIn K mainGlobals "lifts_with" = some (some (.ref fq6)))
    (lq6 : K.lookup fq6 = some ⟨ocq6, odq6, .func (PySem.W.fnOf "lifts_with" "lifts_with" (defArgs s_lifts_with) (defBody s_lifts_with) (defScope s_lifts_with) .none kVq6 dcq6 pmq6 anq6 cdq6 ctq6), slq6⟩)
    (cq6 : PySem.W.codeIn K cdq6 "lifts_with" = true)
    (kq6 : PySem.W.keepIn K (.ref fq6) = true)
    (aq7 : PySem.W.nsIn K mainGlobals "layers" = some (some (.ref fq7)))
    (lq7 : K.lookup fq7 = some ⟨ocq7, odq7, .func (PySem.W.fnOf "layers" "layers" (defArgs s_layers) (defBody s_layers) (defScope s_layers) .none kVq7 dcq7 pmq7 anq7 cdq7 ctq7), slq7⟩)
    (cq7 : PySem.W.codeIn K cdq7 "layers" = true)
    (kq7 : PySem.W.keepIn K (.ref fq7) = true)
    (aq8 : PySem.W.nsIn K mainGlobals "a_lift" = some (some (.ref fq8)))
    (lq8 : K.lookup fq8 = some ⟨ocq8, odq8, .func (PySem.W.fnOf "a_lift" "a_lift" (defArgs s_a_lift) (defBody s_a_lift) (defScope s_a_lift) .none kVq8 dcq8 pmq8 anq8 cdq8 ctq8), slq8⟩)
    (cq8 : PySem.W.codeIn K cdq8 "a_lift" = true)
    (kq8 : PySem.W.keepIn K (.ref fq8) = true)
    (aq9 : PySem.W.nsIn K mainGlobals "crossings_of" = some (some (.ref fq9)))
    (lq9 : K.lookup fq9 = some ⟨ocq9, odq9, .func (PySem.W.fnOf "crossings_of" "crossings_of" (defArgs s_crossings_of) (defBody s_crossings_of) (defScope s_crossings_of) .none kVq9 dcq9 pmq9 anq9 cdq9 ctq9), slq9⟩)
    (cq9 : PySem.W.codeIn K cdq9 "crossings_of" = true)
    (kq9 : PySem.W.keepIn K (.ref fq9) = true)
    (aq10 : PySem.W.nsIn K mainGlobals "led_to" = some (some (.ref fq10)))
    (lq10 : K.lookup fq10 = some ⟨ocq10, odq10, .func (PySem.W.fnOf "led_to" "led_to" (defArgs s_led_to) (defBody s_led_to) (defScope s_led_to) .none kVq10 dcq10 pmq10 anq10 cdq10 ctq10), slq10⟩)
    (cq10 : PySem.W.codeIn K cdq10 "led_to" = true)
    (kq10 : PySem.W.keepIn K (.ref fq10) = true)
    (aq11 : PySem.W.nsIn K mainGlobals "ways_from" = some (some (.ref fq11)))
    (lq11 : K.lookup fq11 = some ⟨ocq11, odq11, .func (PySem.W.fnOf "ways_from" "ways_from" (defArgs s_ways_from) (defBody s_ways_from) (defScope s_ways_from) .none kVq11 dcq11 pmq11 anq11 cdq11 ctq11), slq11⟩)
    (cq11 : PySem.W.codeIn K cdq11 "ways_from" = true)
    (kq11 : PySem.W.keepIn K (.ref fq11) = true)
    (aq12 : PySem.W.nsIn K mainGlobals "clash" = some (some (.ref fq12)))
    (lq12 : K.lookup fq12 = some ⟨ocq12, odq12, .func (PySem.W.fnOf "clash" "clash" (defArgs s_clash) (defBody s_clash) (defScope s_clash) .none kVq12 dcq12 pmq12 anq12 cdq12 ctq12), slq12⟩)
    (cq12 : PySem.W.codeIn K cdq12 "clash" = true)
    (kq12 : PySem.W.keepIn K (.ref fq12) = true)
    (aq13 : PySem.W.nsIn K mainGlobals "colours_for" = some (some (.ref fq13)))
    (lq13 : K.lookup fq13 = some ⟨ocq13, odq13, .func (PySem.W.fnOf "colours_for" "colours_for" (defArgs s_colours_for) (defBody s_colours_for) (defScope s_colours_for) .none kVq13 dcq13 pmq13 anq13 cdq13 ctq13), slq13⟩)
    (cq13 : PySem.W.codeIn K cdq13 "colours_for" = true)
    (kq13 : PySem.W.keepIn K (.ref fq13) = true)
    (aq14 : PySem.W.nsIn K mainGlobals "_law_cell" = some (some (.ref fq14)))
    (lq14 : K.lookup fq14 = some ⟨ocq14, odq14, .func (PySem.W.fnOf "_law_cell" "_law_cell" (defArgs s__law_cell) (defBody s__law_cell) (defScope s__law_cell) .none kVq14 dcq14 pmq14 anq14 cdq14 ctq14), slq14⟩)
    (cq14 : PySem.W.codeIn K cdq14 "_law_cell" = true)
    (kq14 : PySem.W.keepIn K (.ref fq14) = true)
    (aq15 : PySem.W.nsIn K mainGlobals "_law_mix" = some (some (.ref fq15)))
    (lq15 : K.lookup fq15 = some ⟨ocq15, odq15, .func (PySem.W.fnOf "_law_mix" "_law_mix" (defArgs s__law_mix) (defBody s__law_mix) (defScope s__law_mix) .none kVq15 dcq15 pmq15 anq15 cdq15 ctq15), slq15⟩)
    (cq15 : PySem.W.codeIn K cdq15 "_law_mix" = true)
    (kq15 : PySem.W.keepIn K (.ref fq15) = true)
    (aq16 : PySem.W.nsIn K mainGlobals "_law_size" = some (some (.ref fq16)))
    (lq16 : K.lookup fq16 = some ⟨ocq16, odq16, .func (PySem.W.fnOf "_law_size" "_law_size" (defArgs s__law_size) (defBody s__law_size) (defScope s__law_size) .none kVq16 dcq16 pmq16 anq16 cdq16 ctq16), slq16⟩)
    (cq16 : PySem.W.codeIn K cdq16 "_law_size" = true)
    (kq16 : PySem.W.keepIn K (.ref fq16) = true)
    (aq17 : PySem.W.nsIn K mainGlobals "_law_cloth" = some (some (.ref fq17)))
    (lq17 : K.lookup fq17 = some ⟨ocq17, odq17, .func (PySem.W.fnOf "_law_cloth" "_law_cloth" (defArgs s__law_cloth) (defBody s__law_cloth) (defScope s__law_cloth) .none kVq17 dcq17 pmq17 anq17 cdq17 ctq17), slq17⟩)
    (cq17 : PySem.W.codeIn K cdq17 "_law_cloth" = true)
    (kq17 : PySem.W.keepIn K (.ref fq17) = true)
    (aq18 : PySem.W.nsIn K mainGlobals "_law_lists" = some (some (.ref fq18)))
    (lq18 : K.lookup fq18 = some ⟨ocq18, odq18, .func (PySem.W.fnOf "_law_lists" "_law_lists" (defArgs s__law_lists) (defBody s__law_lists) (defScope s__law_lists) .none kVq18 dcq18 pmq18 anq18 cdq18 ctq18), slq18⟩)
    (cq18 : PySem.W.codeIn K cdq18 "_law_lists" = true)
    (kq18 : PySem.W.keepIn K (.ref fq18) = true)
    (aq19 : PySem.W.nsIn K mainGlobals "law" = some (some (.ref fq19)))
    (lq19 : K.lookup fq19 = some ⟨ocq19, odq19, .func (PySem.W.fnOf "law" "law" (defArgs s_law) (defBody s_law) (defScope s_law) .none kVq19 dcq19 pmq19 anq19 cdq19 ctq19), slq19⟩)
    (cq19 : PySem.W.codeIn K cdq19 "law" = true)
    (kq19 : PySem.W.keepIn K (.ref fq19) = true)
    (z_bool : PySem.W.nsIn K mainGlobals "bool" = some none)
    (z_enumerate : PySem.W.nsIn K mainGlobals "enumerate" = some none)
    (z_int : PySem.W.nsIn K mainGlobals "int" = some none)
    (z_isinstance : PySem.W.nsIn K mainGlobals "isinstance" = some none)
    (z_len : PySem.W.nsIn K mainGlobals "len" = some none)
    (z_list : PySem.W.nsIn K mainGlobals "list" = some none)
    (z_range : PySem.W.nsIn K mainGlobals "range" = some none)
    (z_sorted : PySem.W.nsIn K mainGlobals "sorted" = some none)
    (z_str : PySem.W.nsIn K mainGlobals "str" = some none)
    (z_tuple : PySem.W.nsIn K mainGlobals "tuple" = some none)
    (g_COLOURS : PySem.W.nsIn K mainGlobals "COLOURS" = some (some (.ref adCOLOURS)))
    (h_COLOURS : K.lookup adCOLOURS = some ⟨.type "tuple", none, .seq #[Value.int 0 tkCOLOURS0, Value.int 1 tkCOLOURS1, Value.int 2 tkCOLOURS2] ntCOLOURS, sltCOLOURS⟩)
    (e_NoThread : PySem.W.nsIn K mainGlobals "NoThread" = some (some (.ref aNoThread)))
    (x_NoThread : PySem.W.excIn K aNoThread [.type "ValueError", .type "Exception", .type "BaseException", .type "object"] "ValueError.__new__" = true) :
    ∃ fd : FuncData, (∀ (s : Shared) (v : Value), BindsTo s fd ⟨[v], []⟩ [("_law_script", v)]) ∧ ∀ base : Heap, K.In base → base.Ns mainGlobals mg → FnOk l.prog w K mg base (CX1 l.prog w) 8 fa fd ["_law_script"] (spLaw K) := by
  have e := hfa.symm.trans (PySem.W.mg_of X G aq19)
  cases e
  have Fq0 := fun_mk (st := s_is_number_below) lq0 cq0 kq0
  have Dq0 : DefOk K mg "is_number_below" s_is_number_below ["thing", "bound"] fq0 _ := ⟨Fq0, Fq0.binds (ps := ["thing", "bound"]) fun _ _ _ _ _ _ us hl => match us, hl with | [_, _], _ => rfl, PySem.W.mg_of X G aq0⟩
  have Fq1 := fun_mk (st := s_threads) lq1 cq1 kq1
  have Dq1 : DefOk K mg "threads" s_threads ["cloth"] fq1 _ := ⟨Fq1, Fq1.binds (ps := ["cloth"]) fun _ _ _ _ _ _ us hl => match us, hl with | [_], _ => rfl, PySem.W.mg_of X G aq1⟩
  have Fq2 := fun_mk (st := s_is_thread) lq2 cq2 kq2
  have Dq2 : DefOk K mg "is_thread" s_is_thread ["cloth", "thing"] fq2 _ := ⟨Fq2, Fq2.binds (ps := ["cloth", "thing"]) fun _ _ _ _ _ _ us hl => match us, hl with | [_, _], _ => rfl, PySem.W.mg_of X G aq2⟩
  have Fq3 := fun_mk (st := s_checked_thread) lq3 cq3 kq3
  have Dq3 : DefOk K mg "checked_thread" s_checked_thread ["cloth", "thing"] fq3 _ := ⟨Fq3, Fq3.binds (ps := ["cloth", "thing"]) fun _ _ _ _ _ _ us hl => match us, hl with | [_, _], _ => rfl, PySem.W.mg_of X G aq3⟩
  have Fq4 := fun_mk (st := s_above) lq4 cq4 kq4
  have Dq4 : DefOk K mg "above" s_above ["cloth", "one", "other"] fq4 _ := ⟨Fq4, Fq4.binds (ps := ["cloth", "one", "other"]) fun _ _ _ _ _ _ us hl => match us, hl with | [_, _, _], _ => rfl, PySem.W.mg_of X G aq4⟩
  have Fq5 := fun_mk (st := s_lying_above) lq5 cq5 kq5
  have Dq5 : DefOk K mg "lying_above" s_lying_above ["cloth", "thread"] fq5 _ := ⟨Fq5, Fq5.binds (ps := ["cloth", "thread"]) fun _ _ _ _ _ _ us hl => match us, hl with | [_, _], _ => rfl, PySem.W.mg_of X G aq5⟩
  have Fq6 := fun_mk (st := s_lifts_with) lq6 cq6 kq6
  have Dq6 : DefOk K mg "lifts_with" s_lifts_with ["cloth", "thread"] fq6 _ := ⟨Fq6, Fq6.binds (ps := ["cloth", "thread"]) fun _ _ _ _ _ _ us hl => match us, hl with | [_, _], _ => rfl, PySem.W.mg_of X G aq6⟩
  have Fq7 := fun_mk (st := s_layers) lq7 cq7 kq7
  have Dq7 : DefOk K mg "layers" s_layers ["cloth"] fq7 _ := ⟨Fq7, Fq7.binds (ps := ["cloth"]) fun _ _ _ _ _ _ us hl => match us, hl with | [_], _ => rfl, PySem.W.mg_of X G aq7⟩
  have Fq8 := fun_mk (st := s_a_lift) lq8 cq8 kq8
  have Dq8 : DefOk K mg "a_lift" s_a_lift ["cloth"] fq8 _ := ⟨Fq8, Fq8.binds (ps := ["cloth"]) fun _ _ _ _ _ _ us hl => match us, hl with | [_], _ => rfl, PySem.W.mg_of X G aq8⟩
  have Fq9 := fun_mk (st := s_crossings_of) lq9 cq9 kq9
  have Dq9 : DefOk K mg "crossings_of" s_crossings_of ["picture", "thread"] fq9 _ := ⟨Fq9, Fq9.binds (ps := ["picture", "thread"]) fun _ _ _ _ _ _ us hl => match us, hl with | [_, _], _ => rfl, PySem.W.mg_of X G aq9⟩
  have Fq10 := fun_mk (st := s_led_to) lq10 cq10 kq10
  have Dq10 : DefOk K mg "led_to" s_led_to ["picture", "step"] fq10 _ := ⟨Fq10, Fq10.binds (ps := ["picture", "step"]) fun _ _ _ _ _ _ us hl => match us, hl with | [_, _], _ => rfl, PySem.W.mg_of X G aq10⟩
  have Fq11 := fun_mk (st := s_ways_from) lq11 cq11 kq11
  have Dq11 : DefOk K mg "ways_from" s_ways_from ["picture", "first"] fq11 _ := ⟨Fq11, Fq11.binds (ps := ["picture", "first"]) fun _ _ _ _ _ _ us hl => match us, hl with | [_, _], _ => rfl, PySem.W.mg_of X G aq11⟩
  have Fq12 := fun_mk (st := s_clash) lq12 cq12 kq12
  have Dq12 : DefOk K mg "clash" s_clash ["ways"] fq12 _ := ⟨Fq12, Fq12.binds (ps := ["ways"]) fun _ _ _ _ _ _ us hl => match us, hl with | [_], _ => rfl, PySem.W.mg_of X G aq12⟩
  have Fq13 := fun_mk (st := s_colours_for) lq13 cq13 kq13
  have Dq13 : DefOk K mg "colours_for" s_colours_for ["picture"] fq13 _ := ⟨Fq13, Fq13.binds (ps := ["picture"]) fun _ _ _ _ _ _ us hl => match us, hl with | [_], _ => rfl, PySem.W.mg_of X G aq13⟩
  have Fq14 := fun_mk (st := s__law_cell) lq14 cq14 kq14
  have Dq14 : DefOk K mg "_law_cell" s__law_cell ["_law_script", "_law_k"] fq14 _ := ⟨Fq14, Fq14.binds (ps := ["_law_script", "_law_k"]) fun _ _ _ _ _ _ us hl => match us, hl with | [_, _], _ => rfl, PySem.W.mg_of X G aq14⟩
  have Fq15 := fun_mk (st := s__law_mix) lq15 cq15 kq15
  have Dq15 : DefOk K mg "_law_mix" s__law_mix ["_law_cell_here", "_law_prime", "_law_many"] fq15 _ := ⟨Fq15, Fq15.binds (ps := ["_law_cell_here", "_law_prime", "_law_many"]) fun _ _ _ _ _ _ us hl => match us, hl with | [_, _, _], _ => rfl, PySem.W.mg_of X G aq15⟩
  have Fq16 := fun_mk (st := s__law_size) lq16 cq16 kq16
  have Dq16 : DefOk K mg "_law_size" s__law_size ["_law_cell_here"] fq16 _ := ⟨Fq16, Fq16.binds (ps := ["_law_cell_here"]) fun _ _ _ _ _ _ us hl => match us, hl with | [_], _ => rfl, PySem.W.mg_of X G aq16⟩
  have Fq17 := fun_mk (st := s__law_cloth) lq17 cq17 kq17
  have Dq17 : DefOk K mg "_law_cloth" s__law_cloth ["_law_script", "_law_at"] fq17 _ := ⟨Fq17, Fq17.binds (ps := ["_law_script", "_law_at"]) fun _ _ _ _ _ _ us hl => match us, hl with | [_, _], _ => rfl, PySem.W.mg_of X G aq17⟩
  have Fq18 := fun_mk (st := s__law_lists) lq18 cq18 kq18
  have Dq18 : DefOk K mg "_law_lists" s__law_lists ["_law_cloth_here"] fq18 _ := ⟨Fq18, Fq18.binds (ps := ["_law_cloth_here"]) fun _ _ _ _ _ _ us hl => match us, hl with | [_], _ => rfl, PySem.W.mg_of X G aq18⟩
  have Fq19 := fun_mk (st := s_law) lq19 cq19 kq19
  have Dq19 : DefOk K mg "law" s_law ["_law_script"] _ _ := ⟨Fq19, Fq19.binds (ps := ["_law_script"]) fun _ _ _ _ _ _ us hl => match us, hl with | [_], _ => rfl, PySem.W.mg_of X G aq19⟩
  have T : Pr K mg w aNoThread := ⟨PySem.W.mg_none_of X G z_bool, PySem.W.mg_none_of X G z_enumerate, PySem.W.mg_none_of X G z_int, PySem.W.mg_none_of X G z_isinstance, PySem.W.mg_none_of X G z_len, PySem.W.mg_none_of X G z_list, PySem.W.mg_none_of X G z_range, PySem.W.mg_none_of X G z_sorted, PySem.W.mg_none_of X G z_str, PySem.W.mg_none_of X G z_tuple, gtup_of (ds := [.int 0, .int 1, .int 2]) (PySem.W.mg_of X G g_COLOURS) h_COLOURS rfl (.cons ⟨_, rfl⟩ (.cons ⟨_, rfl⟩ (.cons ⟨_, rfl⟩ .nil))) (Nat.le_of_ble_eq_true rfl), PySem.W.mg_of X G e_NoThread, ⟨x_NoThread⟩, ⟨_, _, Dq0⟩, ⟨_, _, Dq1⟩, ⟨_, _, Dq2⟩, ⟨_, _, Dq3⟩, ⟨_, _, Dq4⟩, ⟨_, _, Dq5⟩, ⟨_, _, Dq6⟩, ⟨_, _, Dq7⟩, ⟨_, _, Dq8⟩, ⟨_, _, Dq9⟩, ⟨_, _, Dq10⟩, ⟨_, _, Dq11⟩, ⟨_, _, Dq12⟩, ⟨_, _, Dq13⟩, ⟨_, _, Dq14⟩, ⟨_, _, Dq15⟩, ⟨_, _, Dq16⟩, ⟨_, _, Dq17⟩, ⟨_, _, Dq18⟩⟩
  exact ⟨PySem.W.fnOf "law" "law" (defArgs s_law) (defBody s_law) (defScope s_law) .none kVq19 dcq19 pmq19 anq19 cdq19 ctq19, fun s v => .of_eq rfl, fun base _ _ => (fn_law T Dq19).imp (law_imp law_true)⟩
theorem walk {l : PySem.W.OpenLaw} {q : Program} {loose : List Str} {XP : (Str → Option Value) → Heap → Prop} {YP : World → Heap → Prop} {d : DefRec} {K : Params → PySem.W.Frag} (hn : l.most = some 63) (hdf : d.params.defaults = [])
    (hY : ∀ (w : World) (h : Heap), YP w h → (K w.params).In h)
    (F : ∀ (w : World) (mg : Str → Option Value) (fa : Addr) (h : Heap), (K w.params).In h → h.Ns mainGlobals mg → mg d.name = some (.ref fa) →
      ∃ fd : FuncData, (∀ (s : Shared) (u : Value), BindsTo s fd ⟨[u], []⟩ [("_law_script", u)]) ∧ ∀ base : Heap, (K w.params).In base → base.Ns mainGlobals mg → FnOk l.prog w (K w.params) mg base (CX1 l.prog w) 8 fa fd ["_law_script"] (spLaw (K w.params))) :
    PySem.W.WalkO q loose XP YP l.row.toRowW d [] (fun f vs => PySem.call f vs) :=
  L2.walk_of (n := 63) (k := 8) (x := "_law_script") (CX := fun w => CX1 l.prog w) (sp := fun w => spLaw (K w.params)) hn (by decide) hdf ⟨rfl, by decide, by decide⟩ hY F (fun _ _ a ns hl _ hS => ⟨a, ns, rfl, hS, hl, fun _ => rfl⟩) fun _ _ _ _ _ z => by
    obtain ⟨_, _, _, _, _, _, _, _, _, _, _, _, hw⟩ := z
    exact hw
end DL
open PySem PySem.W PyProof.Rows
set_option maxRecDepth 100000 in
set_option maxHeartbeats 0 in
theorem PySem.Challenge.cw_weavehall_k18_nothing_is_kept_holds : PySem.Challenge.rw_weavehall_k18_nothing_is_kept.Holds := by
  w_on; o_law; k_head; (case hw => w_witness2)
  k_fill
  refine DL.walk (l := PySem.Challenge.rw_weavehall_k18_nothing_is_kept) rfl rfl (fun w h Y => PySem.W.kIn_of Y) ?F
  case F =>
    intro w mg fa h KX G hmg
    refine' DL.all_mk KX G hmg ?aq0 ?lq0 ?cq0 ?kq0 ?aq1 ?lq1 ?cq1 ?kq1 ?aq2 ?lq2 ?cq2 ?kq2 ?aq3 ?lq3 ?cq3 ?kq3 ?aq4 ?lq4 ?cq4 ?kq4 ?aq5 ?lq5 ?cq5 ?kq5 ?aq6 ?lq6 ?cq6 ?kq6 ?aq7 ?lq7 ?cq7 ?kq7 ?aq8 ?lq8 ?cq8 ?kq8 ?aq9 ?lq9 ?cq9 ?kq9 ?aq10 ?lq10 ?cq10 ?kq10 ?aq11 ?lq11 ?cq11 ?kq11 ?aq12 ?lq12 ?cq12 ?kq12 ?aq13 ?lq13 ?cq13 ?kq13 ?aq14 ?lq14 ?cq14 ?kq14 ?aq15 ?lq15 ?cq15 ?kq15 ?aq16 ?lq16 ?cq16 ?kq16 ?aq17 ?lq17 ?cq17 ?kq17 ?aq18 ?lq18 ?cq18 ?kq18 ?aq19 ?lq19 ?cq19 ?kq19 ?z_bool ?z_enumerate ?z_int ?z_isinstance ?z_len ?z_list ?z_range ?z_sorted ?z_str ?z_tuple ?g_COLOURS ?h_COLOURS ?e_NoThread ?x_NoThread
    (case aq0 => k_is)
    (case lq0 => k_is)
    (case cq0 => k_is)
    (case kq0 => k_is)
    (case aq1 => k_is)
    (case lq1 => k_is)
    (case cq1 => k_is)
    (case kq1 => k_is)
    (case aq2 => k_is)
    (case lq2 => k_is)
    (case cq2 => k_is)
    (case kq2 => k_is)
    (case aq3 => k_is)
    (case lq3 => k_is)
    (case cq3 => k_is)
    (case kq3 => k_is)
    (case aq4 => k_is)
    (case lq4 => k_is)
    (case cq4 => k_is)
    (case kq4 => k_is)
    (case aq5 => k_is)
    (case lq5 => k_is)
    (case cq5 => k_is)
    (case kq5 => k_is)
    (case aq6 => k_is)
    (case lq6 => k_is)
    (case cq6 => k_is)
    (case kq6 => k_is)
    (case aq7 => k_is)
    (case lq7 => k_is)
    (case cq7 => k_is)
    (case kq7 => k_is)
    (case aq8 => k_is)
    (case lq8 => k_is)
    (case cq8 => k_is)
    (case kq8 => k_is)
    (case aq9 => k_is)
    (case lq9 => k_is)
    (case cq9 => k_is)
    (case kq9 => k_is)
    (case aq10 => k_is)
    (case lq10 => k_is)
    (case cq10 => k_is)
    (case kq10 => k_is)
    (case aq11 => k_is)
    (case lq11 => k_is)
    (case cq11 => k_is)
    (case kq11 => k_is)
    (case aq12 => k_is)
    (case lq12 => k_is)
    (case cq12 => k_is)
    (case kq12 => k_is)
    (case aq13 => k_is)
    (case lq13 => k_is)
    (case cq13 => k_is)
    (case kq13 => k_is)
    (case aq14 => k_is)
    (case lq14 => k_is)
    (case cq14 => k_is)
    (case kq14 => k_is)
    (case aq15 => k_is)
    (case lq15 => k_is)
    (case cq15 => k_is)
    (case kq15 => k_is)
    (case aq16 => k_is)
    (case lq16 => k_is)
    (case cq16 => k_is)
    (case kq16 => k_is)
    (case aq17 => k_is)
    (case lq17 => k_is)
    (case cq17 => k_is)
    (case kq17 => k_is)
    (case aq18 => k_is)
    (case lq18 => k_is)
    (case cq18 => k_is)
    (case kq18 => k_is)
    (case aq19 => k_is)
    (case lq19 => k_is)
    (case cq19 => k_is)
    (case kq19 => k_is)
    (case z_bool => k_is)
    (case z_enumerate => k_is)
    (case z_int => k_is)
    (case z_isinstance => k_is)
    (case z_len => k_is)
    (case z_list => k_is)
    (case z_range => k_is)
    (case z_sorted => k_is)
    (case z_str => k_is)
    (case z_tuple => k_is)
    (case g_COLOURS => k_is)
    (case h_COLOURS => k_is)
    (case e_NoThread => k_is)
    (case x_NoThread => k_exc)
#print axioms PySem.Challenge.cw_weavehall_k18_nothing_is_kept_holds
