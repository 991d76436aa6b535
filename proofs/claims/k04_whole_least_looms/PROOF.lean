import PyProof.Rows.All
import Wide.All
import OpenK.AllK
import Wide.FinOn
import Lean
import PyProof.EqAt
import PyProof.EqKinds
import PyProof.TupleCall
import PySem.Challenge.RW_weavehall_k04_whole_least_looms
set_option Elab.async false
set_option linter.all false
set_option maxRecDepth 100000
namespace L2
open PySem PySem.Spec PyProof.Rows
abbrev Key := Sum Int Str
def keyIs : Key → Value → Bool
  | .inl k, v => Value.isInt k v
  | .inr x, v => Value.isStrOf x v
def keyH (w : World) : Key → Int
  | .inl k => hashInt k
  | .inr x => hashStr w x
theorem keyIs_shape : ∀ {k : Key} {v : Value}, keyIs k v = true → (∃ i t, k = Sum.inl i ∧ v = Value.int i t) ∨ (∃ x t, k = Sum.inr x ∧ v = Value.str x t)
  | .inl i, v, h => by
    obtain ⟨t, e⟩ := Value.isInt_shape (k := i) (v := v) h
    exact .inl ⟨i, t, rfl, e⟩
  | .inr x, v, h => by
    obtain ⟨t, e⟩ := Value.isStrOf_shape (x := x) (v := v) h
    exact .inr ⟨x, t, rfl, e⟩
theorem keyIs_int (i : Int) (t : Tok) : keyIs (.inl i) (.int i t) = true := by simp [keyIs, Value.isInt]
theorem keyIs_str (x : Str) (t : Tok) : keyIs (.inr x) (.str x t) = true := by simp [keyIs, Value.isStrOf]
theorem key_ll (a b : Int) : decide ((Sum.inl a : Key) = Sum.inl b) = (a == b) := by
  by_cases e : a = b
  · subst e; simp
  · have h : ¬ (Sum.inl a : Key) = Sum.inl b := fun q => e (Sum.inl.inj q)
    rw [decide_eq_false h]
    exact (beq_eq_false_iff_ne.mpr e).symm
theorem key_rr (a b : Str) : decide ((Sum.inr a : Key) = Sum.inr b) = decide (a = b) := by
  by_cases e : a = b
  · subst e; simp
  · have h : ¬ (Sum.inr a : Key) = Sum.inr b := fun q => e (Sum.inr.inj q)
    rw [decide_eq_false h, decide_eq_false e]
theorem key_lr (a : Int) (b : Str) : decide ((Sum.inl a : Key) = Sum.inr b) = false := decide_eq_false (fun q => nomatch q)
theorem key_rl (a : Str) (b : Int) : decide ((Sum.inr a : Key) = Sum.inl b) = false := decide_eq_false (fun q => nomatch q)
def mixKind (prog : Program) (w : World) : PySem.KeyKind prog w Key where
  is := keyIs
  hash := keyH w
  inj := fun v a b ha hb => by
    rcases keyIs_shape ha with ⟨i, t, rfl, rfl⟩ | ⟨x, t, rfl, rfl⟩
    · rcases keyIs_shape hb with ⟨j, u, rfl, e⟩ | ⟨y, u, rfl, e⟩
      · injection e with e1 _; rw [e1]
      · exact nomatch e
    · rcases keyIs_shape hb with ⟨j, u, rfl, e⟩ | ⟨y, u, rfl, e⟩
      · exact nomatch e
      · injection e with e1 _; rw [e1]
  byValue := fun k v h => by
    rcases keyIs_shape h with ⟨i, t, rfl, rfl⟩ | ⟨x, t, rfl, rfl⟩ <;> rfl
  pyHash := fun hv h => by
    rcases keyIs_shape hv with ⟨i, t, rfl, rfl⟩ | ⟨x, t, rfl, rfl⟩
    · exact wpAny_pyHash_int h
    · exact wpAny_pyHash_str h
  eqBool := fun hu hv h => by
    rcases keyIs_shape hu with ⟨i, t, rfl, rfl⟩ | ⟨x, t, rfl, rfl⟩
    · rcases keyIs_shape hv with ⟨j, u, rfl, rfl⟩ | ⟨y, u, rfl, rfl⟩
      · rw [key_ll] at h; exact wpAny_eqBool_int h
      · rw [key_lr] at h; exact SeqAt.EqAt.int_str i t y u _ _ _ _ h
    · rcases keyIs_shape hv with ⟨j, u, rfl, rfl⟩ | ⟨y, u, rfl, rfl⟩
      · rw [key_rl] at h; exact SeqAt.EqAt.str_int x t j u _ _ _ _ h
      · rw [key_rr] at h; exact wpAny_eqBool_str h
  «strs» := fun k x t v h => by
    rcases keyIs_shape h with ⟨i, u, rfl, e⟩ | ⟨y, u, rfl, e⟩
    · exact nomatch e
    · injection e with e1 _
      subst e1
      cases v <;> rfl
theorem mixKind_int (prog : Program) (w : World) (i : Int) (t : Tok) : (mixKind prog w).is (.inl i) (.int i t) = true := keyIs_int i t
theorem mixKind_str (prog : Program) (w : World) (x : Str) (t : Tok) : (mixKind prog w).is (.inr x) (.str x t) = true := keyIs_str x t
end L2
namespace L2
open PySem PySem.Spec PyProof.Rows
inductive V where
  | non | bl (b : Bool) | int (i : Int) | str (x : Str) | byt (b : Array UInt8) | flt (b : UInt64) | ref (a : Addr) | ty (n : String)
  deriving DecidableEq
def RelV : V → Value → Prop
  | .non, u => u = Value.none
  | .bl b, u => u = Value.bool b
  | .int i, u => ∃ t, u = Value.int i t
  | .str x, u => ∃ t, u = Value.str x t
  | .byt b, u => ∃ t, u = Value.bytes b t
  | .flt b, u => ∃ t, u = Value.float b t
  | .ref a, u => u = Value.ref a
  | .ty n, u => u = Value.type n
abbrev Vals : List V → List Value → Prop := Paired RelV
theorem Vals.length {xs : List V} {us : List Value} (r : Vals xs us) : xs.length = us.length := Paired.length r
theorem Vals.get : ∀ {xs : List V} {us : List Value} {i : Nat} {x : V}, Vals xs us → xs[i]? = some x → ∃ u, us[i]? = some u ∧ RelV x u
  | _, _, _, _, .nil, e => by simp at e
  | _, _, 0, _, .cons r _, e => by simp at e; subst e; exact ⟨_, rfl, r⟩
  | _, _, i + 1, x, .cons _ t, e => by
    obtain ⟨u, h1, h2⟩ := Vals.get (i := i) (x := x) t (by simpa using e)
    exact ⟨u, by simpa using h1, h2⟩
theorem Vals.set {x : V} {u : Value} (r : RelV x u) : ∀ {xs : List V} {us : List Value} (i : Nat), Vals xs us → Vals (xs.set i x) (us.set i u)
  | _, _, _, .nil => .nil
  | _, _, 0, .cons _ t => .cons r t
  | _, _, i + 1, .cons q t => .cons q (Vals.set r i t)
theorem Vals.append : ∀ {xs ys : List V} {us ws : List Value}, Vals xs us → Vals ys ws → Vals (xs ++ ys) (us ++ ws)
  | _, _, _, _, .nil, s => s
  | _, _, _, _, .cons r t, s => .cons r (Vals.append t s)
theorem Vals.take : ∀ {xs : List V} {us : List Value} (n : Nat), Vals xs us → Vals (xs.take n) (us.take n)
  | _, _, 0, _ => .nil
  | _, _, _ + 1, .nil => .nil
  | _, _, n + 1, .cons r t => .cons r (Vals.take n t)
theorem Vals.drop : ∀ {xs : List V} {us : List Value} (n : Nat), Vals xs us → Vals (xs.drop n) (us.drop n)
  | _, _, 0, r => r
  | _, _, _ + 1, .nil => .nil
  | _, _, n + 1, .cons _ t => Vals.drop n t
def RelO : Option V → Option Value → Prop
  | some v, some u => RelV v u
  | none, none => True
  | _, _ => False
def KV {κ : Type} : List (κ × V) → List (κ × Value) → Prop := Paired fun (p : κ × V) (q : κ × Value) => p.1 = q.1 ∧ RelV p.2 q.2
def kV : Key → V
  | .inl i => .int i
  | .inr x => .str x
inductive HO where
  | lst (xs : List V)
  | tup (xs : List V)
  | dK (kvs : List (Key × V)) | dT (kvs : List (List Key × V))
  | set (S : Int → Bool) (n : Nat)
  | ins (C dx : Addr) (fs : List (Str × V))
  | own (x : Addr)
  | xd (fs : List (Str × V))
  | met (f x : Addr)
  | rng (lo hi : Int)
  | frz (o : Obj) (u : HO)
  | tbl (ps : Array Value)
  | ext (φ : Heap → Prop)
abbrev Hp := Addr → Option HO
def upd (H : Hp) (a : Addr) (o : HO) : Hp := fun b => if b = a then some o else H b
theorem upd_same {H : Hp} {a : Addr} {o : HO} : upd H a o a = some o := by unfold upd; rw [if_pos rfl]
theorem upd_ne {H : Hp} {a b : Addr} {o : HO} (h : b ≠ a) : upd H a o b = H b := by unfold upd; rw [if_neg h]
theorem ne_of_none {H : Hp} {a b : Addr} {o : HO} (h : H a = some o) (h' : H b = none) : a ≠ b := by
  intro e; subst e; rw [h] at h'; cases h'
section
variable (P : Program) (w : World)
def ObjOk (H : Hp) (h : Heap) (a : Addr) : HO → Prop
  | .lst xs => xs.length ≤ sizeLine ∧ ∃ (its : List Value) (n : Nat), Vals xs its ∧ h.get? a = some { cls := .type "list", data := .seq its.toArray n }
  | .tup xs => xs.length ≤ sizeLine ∧ ∃ its : List Value, Vals xs its ∧ IsTup h a its.toArray
  | .dK kvs => kvs.length ≤ sizeLine ∧ (a == sysModules) = false ∧ ∃ vs, KV kvs vs ∧ h.DictOf (mixKind P w) a vs
  | .dT kvs => kvs.length ≤ sizeLine ∧ (a == sysModules) = false ∧ ∃ xs : List (List Key × Addr × Value),
      Paired (fun (p : List Key × V) (q : List Key × Addr × Value) => p.1 = q.1 ∧ H q.2.1 = some (.tup (p.1.map kV)) ∧ RelV p.2 q.2.2) kvs xs ∧
      ∃ o es ep, h.get? a = some o ∧ o.ExactDict ∧ o.data = .dict es ep ∧ es.toList = xs.map (entryOfKey (tupleKind (mixKind P w))) ∧ (xs.map (·.1)).Nodup
  | .set S n => h.SetOf (intKind P w) a S n
  | .ins C dx fs => H dx = some (.own a) ∧ fs.length ≤ 1000 ∧ dx ≠ a ∧ h.get? a = some (PySem.W.instObj C dx) ∧
      ∃ mA, h.Ns1 dx mA ∧ (∀ f, RelO (fs.lookup f) (mA f)) ∧ PySem.Within mA (fs.map (·.1))
  | .own _ => ∃ o, h.get? a = some o
  | .xd fs => ∃ mA, h.Ns1 a mA ∧ ∀ f, RelO (fs.lookup f) (mA f)
  | .rng lo hi => ∃ t u v, h.get? a = some { cls := .type "range", data := .fields #[.int lo t, .int hi u, .int 1 v] }
  | .frz o u => h.get? a = some o ∧ ObjOk H h a u
  | .tbl ps => h.get? a = some { cls := .none, data := .fields ps }
  | .met f x => h.get? a = some (PySem.W.methodObj (.ref f) (.ref x))
  | .ext φ => φ h ∧ (∃ o, h.get? a = some o) ∧ ∀ h1 h2 : Heap, φ h1 → (∀ o, h1.get? a = some o → h2.get? a = some o) → φ h2
def HOk (H : Hp) (h : Heap) : Prop := ∀ a o, H a = some o → ObjOk P w H h a o
end
section
variable {P : Program} {w : World} {H H' : Hp} {h h' : Heap} {a : Addr} {o : HO}
theorem ObjOk.lt (x : ObjOk P w H h a o) : a < h.objs.size := by
  cases o with
  | lst xs => obtain ⟨_, _, _, _, e⟩ := x; exact Heap.lt_size e
  | tup xs => obtain ⟨_, _, _, p⟩ := x; exact p.lt
  | dK kvs => obtain ⟨_, _, _, _, o, _, _, e, _⟩ := x; exact Heap.lt_size e
  | dT kvs => obtain ⟨_, _, _, _, o, _, _, e, _⟩ := x; exact Heap.lt_size e
  | set S n => obtain ⟨o, _, _, _, e, _⟩ := x; exact Heap.lt_size e
  | ins C dx fs => obtain ⟨_, _, _, e, _⟩ := x; exact Heap.lt_size e
  | own y => obtain ⟨_, e⟩ := x; exact Heap.lt_size e
  | xd fs => obtain ⟨_, ⟨_, _, _, e, _⟩, _⟩ := x; exact Heap.lt_size e
  | rng lo hi => obtain ⟨_, _, _, e⟩ := x; exact Heap.lt_size e
  | frz ob u => obtain ⟨e, _⟩ := x; exact Heap.lt_size e
  | tbl ps => exact Heap.lt_size (show h.get? a = some _ from x)
  | met f y => exact Heap.lt_size (show h.get? a = some _ from x)
  | ext φ => obtain ⟨_, ⟨_, e⟩, _⟩ := x; exact Heap.lt_size e
theorem Paired.mapP {α β : Type} {F G : α → β → Prop} : ∀ {l₁ : List α} {l₂ : List β}, Paired F l₁ l₂ → (∀ a b, F a b → G a b) → Paired G l₁ l₂
  | _, _, .nil, _ => .nil
  | _, _, .cons r t, f => .cons (f _ _ r) (Paired.mapP t f)
theorem ObjOk.stay (x : ObjOk P w H h a o) (k : ∀ b u, (b = a ∨ H b = some (.own a)) → h.get? b = some u → h'.get? b = some u)
    (ho : ∀ b, H b = some (.own a) → H' b = some (.own a)) (ht : ∀ b xs, H b = some (.tup xs) → H' b = some (.tup xs)) : ObjOk P w H' h' a o := by
  induction o with
  | lst xs => obtain ⟨z, its, n, r, e⟩ := x; exact ⟨z, its, n, r, k _ _ (.inl rfl) e⟩
  | tup xs => obtain ⟨z, its, r, ob, e, c⟩ := x; exact ⟨z, its, r, ob, k _ _ (.inl rfl) e, c⟩
  | dK kvs => obtain ⟨z, y, vs, r, ob, es, ep, e, c⟩ := x; exact ⟨z, y, vs, r, ob, es, ep, k _ _ (.inl rfl) e, c⟩
  | dT kvs =>
    obtain ⟨z, y, xs, r, ob, es, ep, e, c⟩ := x
    exact ⟨z, y, xs, Paired.mapP r fun p q z => ⟨z.1, ht _ _ z.2.1, z.2.2⟩, ob, es, ep, k _ _ (.inl rfl) e, c⟩
  | set S n => obtain ⟨ob, es, ep, t, e, c⟩ := x; exact ⟨ob, es, ep, t, k _ _ (.inl rfl) e, c⟩
  | ins C dx fs =>
    obtain ⟨d, z, ne, e, mA, ⟨od, es, ep, e2, c⟩, r⟩ := x
    exact ⟨ho _ d, z, ne, k _ _ (.inl rfl) e, mA, ⟨od, es, ep, k _ _ (.inr d) e2, c⟩, r⟩
  | own y => obtain ⟨ob, e⟩ := x; exact ⟨ob, k _ _ (.inl rfl) e⟩
  | xd fs => obtain ⟨mA, ⟨od, es, ep, e, c⟩, r⟩ := x; exact ⟨mA, ⟨od, es, ep, k _ _ (.inl rfl) e, c⟩, r⟩
  | rng lo hi => obtain ⟨t, u, v, e⟩ := x; exact ⟨t, u, v, k _ _ (.inl rfl) e⟩
  | frz ob u ih => obtain ⟨e, q⟩ := x; exact ⟨k _ _ (.inl rfl) e, ih q⟩
  | tbl ps =>
    have e : h.get? a = some { cls := .none, data := .fields ps } := x
    show h'.get? a = some { cls := .none, data := .fields ps }
    exact k a _ (.inl rfl) e
  | met f y =>
    have e : h.get? a = some (PySem.W.methodObj (.ref f) (.ref y)) := x
    show h'.get? a = some (PySem.W.methodObj (.ref f) (.ref y))
    exact k a _ (.inl rfl) e
  | ext φ => obtain ⟨p, ⟨o, e⟩, st⟩ := x; exact ⟨st _ _ p fun o q => k _ _ (.inl rfl) q, ⟨o, k _ _ (.inl rfl) e⟩, st⟩
theorem HOk.lt (x : HOk P w H h) (e : H a = some o) : a < h.objs.size := (x a o e).lt
theorem HOk.fresh (x : HOk P w H h) (e : h.objs.size ≤ a) : H a = none := by
  cases q : H a with
  | none => rfl
  | some u => exact absurd (Nat.lt_of_lt_of_le (x.lt q) e) (Nat.lt_irrefl _)
theorem HOk.kept (x : HOk P w H h) (k : ∀ b u, h.get? b = some u → h'.get? b = some u) : HOk P w H h' := fun a o e =>
  (x a o e).stay (fun b u _ q => k b u q) (fun _ q => q) fun _ _ q => q
theorem HOk.laid (x : HOk P w H h) (k : ∀ b u, h.get? b = some u → h'.get? b = some u) (hp : h.objs.size ≤ a) (new : ObjOk P w (upd H a o) h' a o) : HOk P w (upd H a o) h' := fun b u e => by
  have hn := x.fresh hp
  by_cases hb : b = a
  · subst hb; rw [upd_same] at e; cases e; exact new
  · rw [upd_ne hb] at e
    exact (x b u e).stay (fun c v _ q => k c v q) (fun c q => by rw [upd_ne (ne_of_none q hn)]; exact q) fun c xs q => by rw [upd_ne (ne_of_none q hn)]; exact q
end
def Rd (H : Hp) (a : Addr) (u : HO) : Prop := H a = some u ∨ ∃ o, H a = some (.frz o u)
theorem Rd.of {H : Hp} {a : Addr} {u : HO} (h : H a = some u) : Rd H a u := .inl h
theorem Rd.ok {P : Program} {w : World} {H : Hp} {h : Heap} {a : Addr} {u : HO} (r : Rd H a u) (x : HOk P w H h) : ObjOk P w H h a u := by
  rcases r with r | ⟨o, r⟩
  · exact x a u r
  · obtain ⟨_, q⟩ := x a _ r
    exact q
def Mut : Option HO → Prop
  | some (.lst _) => True
  | some (.dK _) => True
  | some (.dT _) => True
  | some (.set _ _) => True
  | some (.ins _ _ _) => True
  | some (.ext _) => True
  | _ => False
section
variable {P : Program} {w : World} {H : Hp} {h h' : Heap} {x e : Addr} {o' : HO}
theorem HOk.write (ok : HOk P w H h) (mu : Mut (H x)) (he : e = x ∨ H e = some (.own x)) (k : ∀ b u, b ≠ e → h.get? b = some u → h'.get? b = some u) (heo : ∃ u, h'.get? e = some u)
    (new : ObjOk P w (upd H x o') h' x o') : HOk P w (upd H x o') h' := fun b u q => by
  have nown : ∀ c y, H c = some (.own y) → c ≠ x := fun c y r z => by subst z; rw [r] at mu; exact mu
  have ntup : ∀ c xs, H c = some (.tup xs) → c ≠ x := fun c xs r z => by subst z; rw [r] at mu; exact mu
  by_cases hb : b = x
  · subst hb; rw [upd_same] at q; cases q; exact new
  · rw [upd_ne hb] at q
    by_cases hbe : b = e
    · have q' : H b = some (.own x) := by
        rcases he with z | z
        · exact absurd (hbe.trans z) hb
        · rw [hbe]; exact z
      rw [q] at q'; cases q'
      obtain ⟨v, hv⟩ := heo
      exact ⟨v, by rw [hbe]; exact hv⟩
    · refine (ok b u q).stay (fun c v hc r => k c v ?_ r) (fun c r => by rw [upd_ne (nown c b r)]; exact r) fun c xs r => by rw [upd_ne (ntup c xs r)]; exact r
      rcases hc with rfl | hc
      · exact hbe
      · rintro rfl
        rcases he with z | z
        · exact nown c b hc z
        · rw [hc] at z; cases z; exact hb rfl
end
structure Un (fs ex : List Addr) (H H' : Hp) (h h' : Heap) : Prop where
  keep : ∀ b o, h.get? b = some o → H b = none → b ∉ fs → b ∉ ex → h'.get? b = some o
  slot : ∀ b o, h.get? b = some o → H b = none → b ∈ fs → b ∉ ex → ∃ sl, h'.get? b = some { o with slots := sl }
  free : ∀ b o, h.get? b = some o → H b = none → b ∉ ex → H' b = none
  there : ∀ b o, h.get? b = some o → b ∉ ex → ∃ o', h'.get? b = some o'
  tups : ∀ b xs, H b = some (.tup xs) → H' b = some (.tup xs)
  frzs : ∀ b o u, H b = some (.frz o u) → H' b = some (.frz o u)
  tbls : ∀ b ps, H b = some (.tbl ps) → ∃ more, H' b = some (.tbl (ps ++ more))
section
variable {fs fs' ex ex' : List Addr} {H H1 H2 : Hp} {h h1 h2 h' : Heap} {a x e : Addr} {o : HO}
theorem Un.any (u : Un fs ex H H1 h h1) {b : Addr} {ob : Obj} (q : h.get? b = some ob) (n : H b = none) (hx : b ∉ ex) : ∃ sl, h1.get? b = some { ob with slots := sl } := by
  by_cases hb : b ∈ fs
  · exact u.slot b ob q n hb hx
  · exact ⟨ob.slots, u.keep b ob q n hb hx⟩
theorem Un.trans (a : Un fs ex H H1 h h1) (b : Un fs ex H1 H2 h1 h2) : Un fs ex H H2 h h2 where
  keep := fun c ob q n hc hx => b.keep c ob (a.keep c ob q n hc hx) (a.free c ob q n hx) hc hx
  slot := fun c ob q n hc hx => by
    obtain ⟨sl, e1⟩ := a.slot c ob q n hc hx
    obtain ⟨sl', e2⟩ := b.slot c _ e1 (a.free c ob q n hx) hc hx
    exact ⟨sl', e2⟩
  free := fun c ob q n hx => by
    obtain ⟨o', e1⟩ := a.there c ob q hx
    exact b.free c o' e1 (a.free c ob q n hx) hx
  there := fun c ob q hx => by
    obtain ⟨o', e1⟩ := a.there c ob q hx
    exact b.there c o' e1 hx
  tups := fun c xs q => b.tups c xs (a.tups c xs q)
  frzs := fun c ob xs q => b.frzs c ob xs (a.frzs c ob xs q)
  tbls := fun c ps q => by
    obtain ⟨m1, e1⟩ := a.tbls c ps q
    obtain ⟨m2, e2⟩ := b.tbls c _ e1
    exact ⟨m1 ++ m2, by rw [e2, Array.append_assoc]⟩
theorem Un.kept (k : ∀ b u, h.get? b = some u → h'.get? b = some u) : Un fs ex H H h h' :=
  ⟨fun b ob q _ _ _ => k b ob q, fun b ob q _ _ _ => ⟨ob.slots, k b ob q⟩, fun _ _ _ n _ => n, fun b ob q _ => ⟨ob, k b ob q⟩, fun _ _ q => q, fun _ _ _ q => q, fun _ ps q => ⟨#[], by rw [q]; simp⟩⟩
theorem Un.refl : Un fs ex H H h h := Un.kept fun _ _ q => q
theorem Un.laid (k : ∀ b u, h.get? b = some u → h'.get? b = some u) (hp : h.objs.size ≤ a) (hn : H a = none) : Un fs ex H (upd H a o) h h' where
  keep := fun b u q _ _ _ => k b u q
  slot := fun b u q _ _ _ => ⟨u.slots, k b u q⟩
  free := fun b u q n _ => by rw [upd_ne (Nat.ne_of_lt (Nat.lt_of_lt_of_le (Heap.lt_size q) hp))]; exact n
  there := fun b u q _ => ⟨u, k b u q⟩
  tups := fun b xs q => by rw [upd_ne (ne_of_none q hn)]; exact q
  frzs := fun b u xs q => by rw [upd_ne (ne_of_none q hn)]; exact q
  tbls := fun b ps q => ⟨#[], by rw [upd_ne (ne_of_none q hn), q]; simp⟩
theorem Un.write (mu : Mut (H x)) (he : e = x ∨ H e = some (.own x)) (k : ∀ b u, b ≠ e → h.get? b = some u → h'.get? b = some u) (heo : ∃ u, h'.get? e = some u) : Un fs ex H (upd H x o) h h' := by
  have hx : ∀ b, H b = none → b ≠ x := fun b n z => by subst z; rw [n] at mu; exact mu
  have hb : ∀ b, H b = none → b ≠ e := fun b n z => by
    subst z
    rcases he with r | r
    · exact hx b n r
    · rw [n] at r; cases r
  have hm : ∀ b u, H b = some u → ¬ Mut (some u) → b ≠ x := fun b u q nm z => by subst z; rw [q] at mu; exact nm mu
  refine ⟨fun b u q n _ _ => k b u (hb b n) q, fun b u q n _ _ => ⟨u.slots, k b u (hb b n) q⟩, fun b u q n _ => by rw [upd_ne (hx b n)]; exact n, fun b u q _ => ?_,
    fun b xs q => by rw [upd_ne (hm b _ q fun z => z)]; exact q, fun b u xs q => by rw [upd_ne (hm b _ q fun z => z)]; exact q, fun b ps q => ⟨#[], by rw [upd_ne (hm b _ q fun z => z), q]; simp⟩⟩
  by_cases hbe : b = e
  · subst hbe; exact heo
  · exact ⟨u, k b u hbe q⟩
theorem Un.mono (u : Un fs ex H H1 h h1) (hs : ∀ b ∈ fs, b ∈ fs') (hx : ∀ b ∈ ex, b ∈ ex') : Un fs' ex' H H1 h h1 :=
  ⟨fun b ob q n hb he => u.keep b ob q n (fun z => hb (hs b z)) fun z => he (hx b z), fun _ _ q n _ he => u.any q n fun z => he (hx _ z), fun b ob q n he => u.free b ob q n fun z => he (hx b z), fun b ob q he => u.there b ob q fun z => he (hx b z), u.tups, u.frzs, u.tbls⟩
end
def trk (h : Heap) (H : Hp) : List Addr := (List.range h.objs.size).filter fun a => (H a).isSome
def hidT (h : Heap) (H : Hp) : Heap := PySem.W.hideAll h (trk h H)
theorem hidT_size (h : Heap) (H : Hp) : (hidT h H).objs.size = h.objs.size := PySem.W.hideAll_size _ _
theorem hidT_get {h : Heap} {H : Hp} {b : Addr} {o : Obj} (e : h.get? b = some o) (n : H b = none) : (hidT h H).get? b = some o :=
  PySem.W.hideAll_get _ e fun hm => by
    have q : (H b).isSome = true := (List.mem_filter.mp hm).2
    rw [n] at q; simp at q
theorem of_hidT {h : Heap} {H : Hp} {b : Addr} {o : Obj} (e : (hidT h H).get? b = some o) : h.get? b = some o ∧ H b = none := by
  have e' : h.get? b = some o := PySem.W.of_hideAll (trk h H) e
  refine ⟨e', ?_⟩
  cases q : H b with
  | none => rfl
  | some x =>
    have hm : b ∈ trk h H := List.mem_filter.mpr ⟨List.mem_range.mpr (Heap.lt_size e'), by simp [q]⟩
    have z : (hidT h H).get? b = none := PySem.W.hideAll_none (trk h H) hm
    rw [z] at e; cases e
def allNews (g h : Heap) (L : Addr) : List (Addr × Obj) := (List.range h.objs.size).filterMap fun a => if a = L ∨ (g.get? a).isSome = true then none else (h.get? a).map fun o => (a, o)
def rest (g h : Heap) (L d : Addr) : List (Addr × Obj) := (allNews g h L).filter fun p => decide (p.1 ≠ d)
end L2
namespace L2
open PySem PySem.Spec PyProof.Rows
structure Mod (K : PySem.W.Frag) (mg : Str → Option Value) (base : Heap) : Prop where
  kin : K.In base
  glob : base.Ns mainGlobals mg
  blt : ∃ mb, base.Ns builtinsNs mb ∧ ∀ x : Str, x ≠ "__name__" → mb x = bootBuiltins x
  nolimit : base.NoLimit
structure Cx where
  prog : Program
  w : World
  K : PySem.W.Frag
  mg : Str → Option Value
  base : Heap
  A : Around
  N : List Str
  s₀ : Shared
  H₀ : Hp
  env : Env
  outer : List Env
  stack : List Env
  ex : List Addr
  fn : Str → Bool
  calm : Bool
  pn : List (Addr × Obj)
  xe : Value → Shared → Prop
def frs (l : List Env) : List Addr := l.filterMap (·.frame)
abbrev Cx.fs (X : Cx) : List Addr := frs X.outer
def Vis (sc : Scope) (x : Str) : Prop := sc.names.lookup x = some .local ∨ sc.names.lookup x = some .cell ∨ sc.names.lookup x = some .free
def Loc (sc : Scope) (x : Str) : Prop := sc.names.lookup x = some .local ∨ sc.names.lookup x = some .cell
def Look (env : Env) (h : Heap) (m : Str → Option Value) (x : Str) (u : Value) : Prop :=
  (env.kindOf x = some .local ∧ m x = some u) ∨ ((env.kindOf x = some .cell ∨ env.kindOf x = some .free) ∧ ∃ c, env.cells.lookup x = some c ∧ h.IsCell c (some u))
structure Cx.Ok (X : Cx) : Prop where
  mod : Mod X.K X.mg X.base
  kind : X.env.scope.kind = .function
  glob : X.env.globals = mainGlobals
  blt : X.env.builtins = builtinsNs
  above : X.s₀.heap.objs.size ≤ X.env.locals
  inj : ∀ x y c, X.env.cells.lookup x = some c → X.env.cells.lookup y = some c → x = y
  has : ∀ x, (X.env.kindOf x = some .cell ∨ X.env.kindOf x = some .free) → ∃ c, X.env.cells.lookup x = some c
  cab : ∀ x c, X.fn x = true → X.env.cells.lookup x = some c → X.s₀.heap.objs.size ≤ c
  hd : X.calm = true → X.A.handled = none
  frames : X.A.frames = some X.stack
  stk : X.stack = X.outer ∨ (X.stack = X.env :: X.outer ∧ X.env.frame = some X.env.locals)
  exf : ∀ b ∈ X.ex, b ≠ X.env.locals ∧ ∀ x c, X.env.cells.lookup x = some c → c ≠ b
  bs : ∀ b o, X.base.get? b = some o → X.s₀.heap.get? b = some o ∧ X.H₀ b = none
  bsz : X.base.objs.size ≤ X.s₀.heap.objs.size
  noex : ∀ b o, X.base.get? b = some o → b ∉ X.ex
  exfs : ∀ b ∈ X.ex, b ∉ X.fs
  funs : X.s₀.heap.FunFrames X.base X.outer
  frf : ∀ b ∈ X.fs, X.H₀ b = none
structure Inv (X : Cx) (pins : List (Addr × Obj)) (σ : List (Option V)) (H : Hp) (s : Shared) : Prop where
  ok : X.Ok
  os : s.os = X.s₀.os
  bare : AllBare s.gens
  base : Un X.fs X.ex X.H₀ H X.s₀.heap s.heap
  loc : ∃ m, s.heap.Ns X.env.locals m ∧ ∀ (i : Nat) (x : Str) (v : V), X.N[i]? = some x → σ[i]? = some (some v) → Vis X.env.scope x → ∃ u, RelV v u ∧ Look X.env s.heap m x u
  cell : ∀ x c, X.env.cells.lookup x = some c → ∃ v, s.heap.IsCell c v
  free : H X.env.locals = none
  freeC : ∀ x c, X.env.cells.lookup x = some c → H c = none
  pin : ∀ p ∈ X.pn ++ pins, s.heap.get? p.1 = some p.2 ∧ H p.1 = none ∧ p.1 ≠ X.env.locals ∧ p.1 ∉ X.fs ∧ ∀ v, p.2.data ≠ .cell v
  hok : HOk X.prog X.w H s.heap
  len : σ.length = X.N.length
section
variable {X : Cx} {pins : List (Addr × Obj)} {σ : List (Option V)} {H H' : Hp} {s : Shared} {h' : Heap}
theorem Cx.Ok.nofr (ok : X.Ok) {b : Addr} {o : Obj} (e : X.base.get? b = some o) : b ∉ X.fs := fun hb => by
  have := (ok.funs.mem hb).1
  rw [e] at this; cases this
theorem Inv.bs (I : Inv X pins σ H s) : ∀ b o, X.base.get? b = some o → s.heap.get? b = some o ∧ H b = none := fun b o e =>
  ⟨I.base.keep b o (I.ok.bs b o e).1 (I.ok.bs b o e).2 (I.ok.nofr e) (I.ok.noex b o e), I.base.free b o (I.ok.bs b o e).1 (I.ok.bs b o e).2 (I.ok.noex b o e)⟩
theorem Inv.bk (I : Inv X pins σ H s) : ∀ b o, X.base.get? b = some o → s.heap.get? b = some o := fun b o e => (I.bs b o e).1
theorem Inv.mod (I : Inv X pins σ H s) : Mod X.K X.mg X.base := I.ok.mod
theorem Inv.kIn (I : Inv X pins σ H s) : X.K.In s.heap := I.ok.mod.kin.keeps I.bk
theorem Inv.nolimit (I : Inv X pins σ H s) : s.heap.NoLimit := I.ok.mod.nolimit.keeps I.bk
theorem Inv.fr (I : Inv X pins σ H s) : ∃ m, Fr X.base X.env.locals s.heap m :=
  let ⟨m, hn, _⟩ := I.loc
  ⟨m, hn, I.bk, Nat.le_trans I.ok.bsz I.ok.above⟩
theorem Inv.lt (I : Inv X pins σ H s) : X.env.locals < s.heap.objs.size := let ⟨_, hn, _⟩ := I.loc; hn.lt
theorem Inv.sz (I : Inv X pins σ H s) : X.s₀.heap.objs.size ≤ s.heap.objs.size := Nat.le_trans I.ok.above (Nat.le_of_lt I.lt)
theorem Inv.nofs (I : Inv X pins σ H s) {a : Addr} (h : s.heap.objs.size ≤ a) : a ∉ X.fs := fun hb => by
  obtain ⟨_, o, ho, _⟩ := I.ok.funs.mem hb
  exact absurd (Nat.lt_of_lt_of_le (Heap.lt_size ho) (Nat.le_trans I.sz h)) (Nat.lt_irrefl _)
theorem Inv.cne (I : Inv X pins σ H s) : ∀ x c, X.env.cells.lookup x = some c → c ≠ X.env.locals := fun x c e z => by
  obtain ⟨v, o, ho, hd⟩ := I.cell x c e
  obtain ⟨m, ⟨o', es, ep, ho', hd', _⟩, _⟩ := I.loc
  rw [z, ho'] at ho; cases ho; rw [hd'] at hd; cases hd
theorem Inv.funs (I : Inv X pins σ H s) : s.heap.FunFrames X.base X.outer := by
  have all : ∀ (l : List Env), (∀ b ∈ frs l, b ∈ X.fs) → X.s₀.heap.FunFrames X.base l → s.heap.FunFrames X.base l := by
    intro l
    induction l with
    | nil => intro _ _; trivial
    | cons env r ih =>
      intro hs hl
      obtain ⟨hk, ⟨L, o, hf, hn, ho, hd⟩, hr⟩ := hl
      have hL : L ∈ X.fs := hs L (by unfold frs; rw [List.filterMap_cons, hf]; exact List.mem_cons_self)
      obtain ⟨sl, e⟩ := I.base.slot L o ho (I.ok.frf L hL) hL fun z => I.ok.exfs L z hL
      exact ⟨hk, ⟨L, _, hf, hn, e, hd⟩, ih (fun b hb => hs b (by unfold frs; rw [List.filterMap_cons, hf]; exact List.mem_cons_of_mem _ hb)) hr⟩
  exact all X.outer (fun _ hb => hb) I.ok.funs
theorem Inv.stack (I : Inv X pins σ H s) : s.heap.FunFrames X.base X.stack := by
  rcases I.ok.stk with e | ⟨e, hf⟩
  · rw [e]; exact I.funs
  · rw [e]
    obtain ⟨m, hn, _⟩ := I.loc
    refine .cons (by rw [I.ok.kind]; decide) hf hn ?_ I.funs
    exact Heap.get?_none_of_le (Nat.le_trans I.ok.bsz I.ok.above)
theorem Inv.stkSub (I : Inv X pins σ H s) : ∀ b ∈ frs X.stack, b ∈ X.env.locals :: X.fs := fun b hb => by
  rcases I.ok.stk with e | ⟨e, hf⟩
  · rw [e] at hb; exact List.mem_cons_of_mem _ hb
  · rw [e] at hb
    unfold frs at hb
    rw [List.filterMap_cons, hf] at hb
    exact hb
theorem Inv.stkFree (I : Inv X pins σ H s) : ∀ b ∈ frs X.stack, H b = none := fun b hb => by
  rcases List.mem_cons.mp (I.stkSub b hb) with e | hb
  · rw [e]; exact I.free
  · obtain ⟨_, o, ho, _⟩ := I.ok.funs.mem hb
    exact I.base.free b o ho (I.ok.frf b hb) fun z => I.ok.exfs b z hb
theorem Inv.step {g' : Array GenState} {t' : Nat} {d' : Drawn} {ch : List Addr} (I : Inv X pins σ H s)
    (hch : ∀ b ∈ ch, (b ∈ X.ex ∨ X.s₀.heap.objs.size ≤ b) ∧ b ≠ X.env.locals ∧ (∀ x c, X.env.cells.lookup x = some c → c ≠ b) ∧ ∀ p ∈ X.pn ++ pins, p.1 ≠ b)
    (keep : ∀ b o, b ≠ X.env.locals → b ∉ X.fs → b ∉ ch → s.heap.get? b = some o → H b = none → h'.get? b = some o)
    (slot : ∀ b o, b ≠ X.env.locals → b ∈ X.fs → b ∉ ch → s.heap.get? b = some o → H b = none → ∃ sl, h'.get? b = some { o with slots := sl }) (free : ∀ b o, b ∉ ch → s.heap.get? b = some o → H b = none → H' b = none)
    (there : ∀ b o, b ∉ ch → s.heap.get? b = some o → ∃ o', h'.get? b = some o')
    (tups : ∀ b xs, H b = some (.tup xs) → H' b = some (.tup xs)) (frzs : ∀ b o u, H b = some (.frz o u) → H' b = some (.frz o u)) (tbls : ∀ b ps, H b = some (.tbl ps) → ∃ more, H' b = some (.tbl (ps ++ more)))
    (ns : ∀ m, s.heap.Ns X.env.locals m → h'.Ns X.env.locals m) (hok : HOk X.prog X.w H' h') (hg : AllBare g') :
    Inv X pins σ H' { s with heap := h', gens := g', drawn := d', toks := t' } := by
  have neL : ∀ b o, X.s₀.heap.get? b = some o → b ≠ X.env.locals := fun b o e => Nat.ne_of_lt (Nat.lt_of_lt_of_le (Heap.lt_size e) I.ok.above)
  have neC : ∀ b o, X.s₀.heap.get? b = some o → b ∉ X.ex → b ∉ ch := fun b o e hx hb => by
    rcases (hch b hb).1 with z | z
    · exact hx z
    · exact absurd (Nat.lt_of_lt_of_le (Heap.lt_size e) z) (Nat.lt_irrefl _)
  have cellK : ∀ x c, X.env.cells.lookup x = some c → ∀ v, s.heap.IsCell c v → h'.IsCell c v := fun x c e v ⟨o, ho, hd⟩ => by
    have nch : c ∉ ch := fun z => (hch c z).2.2.1 x c e rfl
    by_cases hc : c ∈ X.fs
    · obtain ⟨sl, q⟩ := slot c o (I.cne x c e) hc nch ho (I.freeC x c e)
      exact ⟨_, q, hd⟩
    · exact ⟨o, keep c o (I.cne x c e) hc nch ho (I.freeC x c e), hd⟩
  refine ⟨I.ok, I.os, hg, ⟨fun b o e n hb hx => ?_, fun b o e n hb hx => ?_, fun b o e n hx => ?_, fun b o e hx => ?_, fun b xs e => tups b xs (I.base.tups b xs e), fun b o xs e => frzs b o xs (I.base.frzs b o xs e), fun b ps e => ?_⟩, ?_, fun x c e => ?_, ?_, fun x c e => ?_, fun p hp => ?_, hok, I.len⟩
  · exact keep b o (neL b o e) hb (neC b o e hx) (I.base.keep b o e n hb hx) (I.base.free b o e n hx)
  · obtain ⟨sl, e1⟩ := I.base.slot b o e n hb hx
    obtain ⟨sl', e2⟩ := slot b _ (neL b o e) hb (neC b o e hx) e1 (I.base.free b o e n hx)
    exact ⟨sl', e2⟩
  · obtain ⟨o', e1⟩ := I.base.there b o e hx
    exact free b o' (neC b o e hx) e1 (I.base.free b o e n hx)
  · obtain ⟨o', e1⟩ := I.base.there b o e hx
    exact there b o' (neC b o e hx) e1
  · obtain ⟨m1, e1⟩ := I.base.tbls b ps e
    obtain ⟨m2, e2⟩ := tbls b _ e1
    exact ⟨m1 ++ m2, by rw [e2, Array.append_assoc]⟩
  · obtain ⟨m, hn, hl⟩ := I.loc
    refine ⟨m, ns m hn, fun i x v e1 e2 e3 => ?_⟩
    obtain ⟨u, r, l⟩ := hl i x v e1 e2 e3
    refine ⟨u, r, ?_⟩
    rcases l with l | ⟨k, c, e, z⟩
    · exact .inl l
    · exact .inr ⟨k, c, e, cellK x c e _ z⟩
  · obtain ⟨v, z⟩ := I.cell x c e
    exact ⟨v, cellK x c e v z⟩
  · obtain ⟨m, ⟨o, _, _, ho, _⟩, _⟩ := I.loc
    exact free _ o (fun z => (hch _ z).2.1 rfl) ho I.free
  · obtain ⟨v, o, ho, hd⟩ := I.cell x c e
    exact free c o (fun z => (hch c z).2.2.1 x c e rfl) ho (I.freeC x c e)
  · obtain ⟨e, n, ne, nf, d⟩ := I.pin p hp
    have nch : p.1 ∉ ch := fun z => (hch p.1 z).2.2.2 p hp rfl
    exact ⟨keep p.1 p.2 ne nf nch e n, free p.1 p.2 nch e n, ne, nf, d⟩
theorem Inv.un {t' : Nat} (I : Inv X pins σ H s) (u : Un X.fs [] H H' s.heap h') (hok : HOk X.prog X.w H' h') : Inv X pins σ H' { s with heap := h', toks := t' } := by
  obtain ⟨m, ⟨o, es, ep, ho, r⟩, _⟩ := id I.loc
  obtain ⟨sl, hL⟩ := u.any ho I.free (by simp)
  exact I.step (g' := s.gens) (d' := s.drawn) (ch := []) (fun _ z => nomatch z) (fun b o _ hb _ e n => u.keep b o e n hb (by simp)) (fun b o _ hb _ e n => u.slot b o e n hb (by simp)) (fun b o _ e n => u.free b o e n (by simp)) (fun b o _ e => u.there b o e (by simp)) u.tups u.frzs u.tbls (fun m' hm => by
    obtain ⟨o', es', ep', ho', r'⟩ := hm
    rw [ho] at ho'; cases ho'
    exact ⟨_, es', ep', hL, r'⟩) hok I.bare
theorem Inv.call {g' : Array GenState} {t' : Nat} {d' : Drawn} {ch : List Addr} (I : Inv X pins σ H s) (u : Un (frs X.stack) ch H H' s.heap h') (hok : HOk X.prog X.w H' h') (hg : AllBare g')
    (hch : ∀ b ∈ ch, (b ∈ X.ex ∨ X.s₀.heap.objs.size ≤ b) ∧ b ≠ X.env.locals ∧ (∀ x c, X.env.cells.lookup x = some c → c ≠ b) ∧ ∀ p ∈ X.pn ++ pins, p.1 ≠ b) :
    Inv X pins σ H' { s with heap := h', gens := g', drawn := d', toks := t' } := by
  obtain ⟨m, ⟨o, es, ep, ho, r⟩, _⟩ := id I.loc
  obtain ⟨sl, hL⟩ := u.any ho I.free fun z => (hch _ z).2.1 rfl
  exact I.step (ch := ch) hch (fun b o hL hb hc e n => u.keep b o e n (fun z => (List.mem_cons.mp (I.stkSub b z)).elim hL hb) hc) (fun b o _ _ hc e n => u.any e n hc) (fun b o hc e n => u.free b o e n hc) (fun b o hc e => u.there b o e hc) u.tups u.frzs u.tbls (fun m' hm => by
    obtain ⟨o', es', ep', ho', r'⟩ := hm
    rw [ho] at ho'; cases ho'
    exact ⟨_, es', ep', hL, r'⟩) hok hg
theorem Inv.turned {t' : Nat} {it : Addr} (I : Inv X pins σ H s) (k : ∀ b o, b ≠ it → s.heap.get? b = some o → h'.get? b = some o) (hn : H it = none) (hL : it ≠ X.env.locals)
    (h1 : it ∈ X.ex ∨ X.s₀.heap.objs.size ≤ it) (h2 : ∀ x c, X.env.cells.lookup x = some c → c ≠ it) (h3 : ∀ p ∈ X.pn ++ pins, p.1 ≠ it) : Inv X pins σ H { s with heap := h', toks := t' } := by
  have nit : ∀ b u, H b = some u → b ≠ it := fun b u e z => by rw [z, hn] at e; cases e
  refine I.step (g' := s.gens) (d' := s.drawn) (ch := [it]) (fun b hb => ?_) (fun b o _ _ hc e _ => k b o (fun z => hc (by simp [z])) e) (fun b o _ _ hc e _ => ⟨o.slots, k b o (fun z => hc (by simp [z])) e⟩) (fun _ _ _ _ n => n)
    (fun b o hc e => ⟨o, k b o (fun z => hc (by simp [z])) e⟩) (fun _ _ e => e) (fun _ _ _ e => e) (fun b ps e => ⟨#[], by rw [e]; simp⟩) (fun m hm => ?_) (fun b u e => ?_) I.bare
  · have e : b = it := by simpa using hb
    subst e
    exact ⟨h1, hL, h2, h3⟩
  · obtain ⟨o, es, ep, ho, r⟩ := hm
    exact ⟨o, es, ep, k _ o (Ne.symm hL) ho, r⟩
  · refine (I.hok b u e).stay (fun c v hc q => k c v ?_ q) (fun _ q => q) fun _ _ q => q
    rcases hc with z | z
    · rw [z]; exact nit b u e
    · exact nit c _ z
theorem Inv.tok (I : Inv X pins σ H s) (t : Nat) : Inv X pins σ H { s with toks := t } := I.un (h' := s.heap) (t' := t) Un.refl I.hok
theorem Inv.kept {t' : Nat} (I : Inv X pins σ H s) (k : ∀ b u, s.heap.get? b = some u → h'.get? b = some u) : Inv X pins σ H { s with heap := h', toks := t' } := I.un (Un.kept k) (I.hok.kept k)
theorem Inv.laid {a : Addr} {o : HO} {t' : Nat} (I : Inv X pins σ H s) (k : ∀ b u, s.heap.get? b = some u → h'.get? b = some u) (hp : s.heap.objs.size ≤ a) (new : ObjOk X.prog X.w (upd H a o) h' a o) :
    Inv X pins σ (upd H a o) { s with heap := h', toks := t' } := I.un (Un.laid k hp (I.hok.fresh hp)) (I.hok.laid k hp new)
theorem Inv.write {x e : Addr} {o : HO} {t' : Nat} (I : Inv X pins σ H s) (mu : Mut (H x)) (he : e = x ∨ H e = some (.own x)) (k : ∀ b u, b ≠ e → s.heap.get? b = some u → h'.get? b = some u) (heo : ∃ u, h'.get? e = some u)
    (new : ObjOk X.prog X.w (upd H x o) h' x o) : Inv X pins σ (upd H x o) { s with heap := h', toks := t' } := I.un (Un.write mu he k heo) (I.hok.write mu he k heo new)
theorem Inv.pins_of {pins' : List (Addr × Obj)} (I : Inv X pins σ H s) (h : ∀ p ∈ pins', s.heap.get? p.1 = some p.2 ∧ H p.1 = none ∧ p.1 ≠ X.env.locals ∧ p.1 ∉ X.fs ∧ ∀ v, p.2.data ≠ .cell v) : Inv X pins' σ H s :=
  ⟨I.ok, I.os, I.bare, I.base, I.loc, I.cell, I.free, I.freeC, fun p hp => (List.mem_append.mp hp).elim (fun z => I.pin p (List.mem_append_left _ z)) (h p), I.hok, I.len⟩
theorem nodup_ix {N : List Str} (hN : N.Nodup) {i j : Nat} {x : Str} (a : N[i]? = some x) (b : N[j]? = some x) : i = j := by
  obtain ⟨h1, e1⟩ := List.getElem?_eq_some_iff.mp a
  obtain ⟨h2, e2⟩ := List.getElem?_eq_some_iff.mp b
  exact (List.getElem_inj hN).mp (e1.trans e2.symm)
theorem store_ok2 {M : Model} {A : Around} {E : Value → Shared → Prop} {i : Nat} {x : Str} {v : V} {u : Value} {Q : Unit → Shared → Prop} (I : Inv X pins σ H s) (hN : X.N.Nodup) (hi : X.N[i]? = some x) (hx : Loc X.env.scope x) (r : RelV v u)
    (h : ∀ s', Inv X pins (σ.set i (some v)) H s' → (∃ a, Heap.SameBut a s.heap s'.heap ∧ (a = X.env.locals ∨ X.env.cells.lookup x = some a)) → Q () s') (hf : X.fn x = true ∨ X.env.scope.names.lookup x = some .local := by first | exact .inl rfl | exact .inr rfl | assumption) : wpAny M A (storeName X.env x u) Q E s := by
  obtain ⟨m, hn, hl⟩ := id I.loc
  have hcls : (X.env.scope.kind == .class || (X.env.scope.kind == .module && X.env.locals != X.env.globals)) = false := by rw [I.ok.kind]; rfl
  have hiσ : i < σ.length := by rw [I.len]; exact (List.getElem?_eq_some_iff.mp hi).1
  have cne := I.cne
  have tracked : ∀ {a : Addr} {h' : Heap}, (∃ o, s.heap.get? a = some o ∧ H a = none) → Heap.SameBut a s.heap h' → HOk X.prog X.w H h' := fun {a h'} ha hs b ob e => by
    obtain ⟨_, _, hfree⟩ := ha
    refine (I.hok b ob e).stay (fun c w' hc q => (hs.2 c ?_).trans q) (fun _ q => q) fun _ _ q => q
    rintro rfl
    rcases hc with rfl | hc
    · rw [hfree] at e; cases e
    · rw [hfree] at hc; cases hc
  rcases hx with hk | hk
  · refine wpAny_storeName_local hk hn (fun h' hn' hs => ?_) hcls
    obtain ⟨oL, _, _, hoL, _⟩ := id hn
    refine h _ ⟨I.ok, I.os, I.bare, ⟨fun b o e n hb hx => ?_, fun b o e n hb hx => ?_, I.base.free, fun b o e hx => ?_, I.base.tups, I.base.frzs, I.base.tbls⟩, ⟨_, hn', fun j y v' e1 e2 e3 => ?_⟩, fun y c e => ?_, I.free, I.freeC, fun p hp => ?_, tracked ⟨oL, hoL, I.free⟩ hs, by simpa using I.len⟩ ⟨_, hs, .inl rfl⟩
    · exact (hs.2 b (Nat.ne_of_lt (Nat.lt_of_lt_of_le (Heap.lt_size e) I.ok.above))).trans (I.base.keep b o e n hb hx)
    · obtain ⟨sl, e1⟩ := I.base.slot b o e n hb hx
      exact ⟨sl, (hs.2 b (Nat.ne_of_lt (Nat.lt_of_lt_of_le (Heap.lt_size e) I.ok.above))).trans e1⟩
    · obtain ⟨o', e1⟩ := I.base.there b o e hx
      exact ⟨o', (hs.2 b (Nat.ne_of_lt (Nat.lt_of_lt_of_le (Heap.lt_size e) I.ok.above))).trans e1⟩
    · by_cases hj : j = i
      · subst hj
        rw [hi] at e1; cases e1
        rw [List.getElem?_set_self hiσ] at e2
        cases e2
        exact ⟨u, r, .inl ⟨hk, by simp⟩⟩
      · rw [List.getElem?_set_ne (Ne.symm hj)] at e2
        obtain ⟨u', r', q⟩ := hl j y v' e1 e2 e3
        refine ⟨u', r', ?_⟩
        rcases q with ⟨k, e⟩ | ⟨k, c, e, z⟩
        · refine .inl ⟨k, ?_⟩
          have : y ≠ x := fun e => hj (nodup_ix hN e1 (e ▸ hi))
          simp [this, e]
        · exact .inr ⟨k, c, e, z.sameBut hs (cne y c e)⟩
    · obtain ⟨w', z⟩ := I.cell y c e
      exact ⟨w', z.sameBut hs (cne y c e)⟩
    · obtain ⟨e, n, ne, nf, d⟩ := I.pin p hp
      exact ⟨(hs.2 p.1 ne).trans e, n, ne, nf, d⟩
  · have hfn : X.fn x = true := by
      rcases hf with z | z
      · exact z
      · rw [z] at hk; cases hk
    obtain ⟨c, hc⟩ := I.ok.has x (.inl hk)
    obtain ⟨w', z⟩ := I.cell x c hc
    refine wpAny_storeName_cell I.ok.kind hk hc z (fun h' hc' hs => ?_)
    obtain ⟨oc, hoc, hocd⟩ := id z
    refine h { s with heap := h' } ⟨I.ok, I.os, I.bare, ⟨fun b o e n hb hx => ?_, fun b o e n hb hx => ?_, I.base.free, fun b o e hx => ?_, I.base.tups, I.base.frzs, I.base.tbls⟩, ⟨m, hn.sameBut hs (Ne.symm (cne x c hc)), fun j y v' e1 e2 e3 => ?_⟩, fun y c' e => ?_, I.free, I.freeC, fun p hp => ?_, tracked ⟨oc, hoc, I.freeC x c hc⟩ hs, by simpa using I.len⟩ ⟨c, hs, .inr hc⟩
    · exact (hs.2 b (Nat.ne_of_lt (Nat.lt_of_lt_of_le (Heap.lt_size e) (I.ok.cab x c hfn hc)))).trans (I.base.keep b o e n hb hx)
    · obtain ⟨sl, e1⟩ := I.base.slot b o e n hb hx
      exact ⟨sl, (hs.2 b (Nat.ne_of_lt (Nat.lt_of_lt_of_le (Heap.lt_size e) (I.ok.cab x c hfn hc)))).trans e1⟩
    · obtain ⟨o', e1⟩ := I.base.there b o e hx
      exact ⟨o', (hs.2 b (Nat.ne_of_lt (Nat.lt_of_lt_of_le (Heap.lt_size e) (I.ok.cab x c hfn hc)))).trans e1⟩
    · by_cases hj : j = i
      · subst hj
        rw [hi] at e1; cases e1
        rw [List.getElem?_set_self hiσ] at e2
        cases e2
        exact ⟨u, r, .inr ⟨.inl hk, c, hc, hc'⟩⟩
      · rw [List.getElem?_set_ne (Ne.symm hj)] at e2
        obtain ⟨u', r', q⟩ := hl j y v' e1 e2 e3
        refine ⟨u', r', ?_⟩
        rcases q with q | ⟨k, c', e, z'⟩
        · exact .inl q
        · refine .inr ⟨k, c', e, z'.sameBut hs ?_⟩
          rintro rfl
          exact hj (nodup_ix hN e1 (I.ok.inj _ _ _ e hc ▸ hi))
    · by_cases hcc : c' = c
      · subst hcc; exact ⟨_, hc'⟩
      · obtain ⟨w2, z2⟩ := I.cell y c' e
        exact ⟨w2, z2.sameBut hs hcc⟩
    · obtain ⟨e, n, ne, nf, d⟩ := I.pin p hp
      refine ⟨(hs.2 p.1 ?_).trans e, n, ne, nf, d⟩
      intro q
      rw [q, hoc] at e
      have q' : oc = p.2 := Option.some.inj e
      exact d w' (by rw [← q']; exact hocd)
theorem store_ok {M : Model} {A : Around} {E : Value → Shared → Prop} {i : Nat} {x : Str} {v : V} {u : Value} {Q : Unit → Shared → Prop} (I : Inv X pins σ H s) (hN : X.N.Nodup) (hi : X.N[i]? = some x) (hx : Loc X.env.scope x) (r : RelV v u)
    (h : ∀ s', Inv X pins (σ.set i (some v)) H s' → Q () s') (hf : X.fn x = true ∨ X.env.scope.names.lookup x = some .local := by first | exact .inl rfl | exact .inr rfl | assumption) : wpAny M A (storeName X.env x u) Q E s :=
  store_ok2 I hN hi hx r (fun s' I' _ => h s' I') hf
theorem Inv.call' {s' : Shared} {ch : List Addr} (I : Inv X pins σ H s) (ho : s'.os = s.os) (u : Un (frs X.stack) ch H H' s.heap s'.heap) (hok : HOk X.prog X.w H' s'.heap) (hg : AllBare s'.gens)
    (hch : ∀ b ∈ ch, (b ∈ X.ex ∨ X.s₀.heap.objs.size ≤ b) ∧ b ≠ X.env.locals ∧ (∀ x c, X.env.cells.lookup x = some c → c ≠ b) ∧ ∀ p ∈ X.pn ++ pins, p.1 ≠ b) : Inv X pins σ H' s' := by
  obtain ⟨h', g', d', t', o'⟩ := s'
  have e : o' = s.os := ho
  subst e
  exact I.call (g' := g') (t' := t') (d' := d') u hok hg hch
end
abbrev XK := Value → Option Addr → Hp → Prop
abbrev St := List (Option V)
abbrev VK := V → Hp → Prop
abbrev TE := St → Hp → VK → Prop
abbrev TT := St → Hp → (Bool → Hp → Prop) → Prop
abbrev TA := St → Hp → (List V → Hp → Prop) → Prop
structure Ends where
  nx : St → Hp → Prop
  rt : VK
  bk : St → Hp → Prop := fun _ _ => False
  ct : St → Hp → Prop := fun _ _ => False
abbrev TS := Ends → St → Hp → Prop
def EP (X : Cx) (pins : List (Addr × Obj)) (σ : St) (Q : VK) (u : Value) (s' : Shared) : Prop := ∃ v H', Inv X pins σ H' s' ∧ RelV v u ∧ Q v H'
def TP (X : Cx) (pins : List (Addr × Obj)) (σ : St) (Q : Bool → Hp → Prop) (b : Bool) (s' : Shared) : Prop := ∃ H', Inv X pins σ H' s' ∧ Q b H'
def AP (X : Cx) (pins : List (Addr × Obj)) (σ : St) (Q : List V → Hp → Prop) (us : List Value) (s' : Shared) : Prop := ∃ vs H', Inv X pins σ H' s' ∧ Vals vs us ∧ Q vs H'
def SP (X : Cx) (pins : List (Addr × Obj)) (D : Ends) (f : Flow) (s' : Shared) : Prop :=
  match f with
  | .next => ∃ σ' H', Inv X pins σ' H' s' ∧ D.nx σ' H'
  | .brk => ∃ σ' H', Inv X pins σ' H' s' ∧ D.bk σ' H'
  | .cont => ∃ σ' H', Inv X pins σ' H' s' ∧ D.ct σ' H'
  | .ret u => ∃ v σ' H', Inv X pins σ' H' s' ∧ RelV v u ∧ D.rt v H'
def PE (X : Cx) (e : Expr) (t : TE) : Prop :=
  ∀ (pins : List (Addr × Obj)) (s : Shared) (σ : St) (H : Hp) (Q : VK), Inv X pins σ H s → t σ H Q → wpAny (model X.prog X.w) X.A (eval e X.env) (EP X pins σ Q) X.xe s
def PT (X : Cx) (e : Expr) (t : TT) : Prop :=
  ∀ (pins : List (Addr × Obj)) (s : Shared) (σ : St) (H : Hp) (Q : Bool → Hp → Prop), Inv X pins σ H s → t σ H Q → wpAny (model X.prog X.w) X.A (isTrue e X.env (eval e X.env)) (TP X pins σ Q) X.xe s
def PW (X : Cx) (e : Expr) (t : TT) : Prop :=
  ∀ (whole : Sem Value) (pins : List (Addr × Obj)) (s : Shared) (σ : St) (H : Hp) (Q : Bool → Hp → Prop), Inv X pins σ H s → t σ H Q → wpAny (model X.prog X.w) X.A (isTrue e X.env whole) (TP X pins σ Q) X.xe s
theorem PW.pt {X : Cx} {e : Expr} {t : TT} (h : PW X e t) : PT X e t := h _
def PA (X : Cx) (es : List Expr) (t : TA) : Prop :=
  ∀ (pos : Pos) (pins : List (Addr × Obj)) (s : Shared) (σ : St) (H : Hp) (Q : List V → Hp → Prop), Inv X pins σ H s → t σ H Q → wpAny (model X.prog X.w) X.A (spliced (backTo pos (starEach es X.env))) (AP X pins σ Q) X.xe s
def PS (X : Cx) (st : Stmt) (t : TS) : Prop :=
  ∀ (pins : List (Addr × Obj)) (s : Shared) (σ : St) (H : Hp) (D : Ends), Inv X pins σ H s → t D σ H → wpAny (model X.prog X.w) X.A (exec st X.env) (SP X pins D) X.xe s
def PSs (X : Cx) (st : List Stmt) (t : TS) : Prop :=
  ∀ (pins : List (Addr × Obj)) (s : Shared) (σ : St) (H : Hp) (D : Ends), Inv X pins σ H s → t D σ H → wpAny (model X.prog X.w) X.A (execs st X.env) (SP X pins D) X.xe s
theorem thn {α : Type} {t : Sem α} {Q Q' : α → Shared → Prop} {M : Model} {A : Around} {E : Value → Shared → Prop} {s : Shared} (h : wpAny M A t Q E s) (hQ : ∀ a s, Q a s → Q' a s) : wpAny M A t Q' E s := wpAny_mono h hQ fun _ _ x => x
end L2
namespace L2
open PySem PySem.Spec PyProof.Rows
section
variable {X : Cx}
def tVar (i : Nat) : TE := fun σ H Q => ∃ v, σ[i]? = some (some v) ∧ Q v H
def tC (v : V) : TE := fun _ H Q => Q v H
theorem pe_var {i : Nat} {x : Str} {pos : Pos} (hN : X.N[i]? = some x) (hv : Vis X.env.scope x) (hd : (x == ("__debug__" : Str)) = false := by decide) (hcd : (x == ("__classdict__" : Str)) = false := by decide) : PE X (.Name x pos) (tVar i) := by
  intro pins s σ H Q I h
  obtain ⟨v, e, h⟩ := h
  obtain ⟨m, hn, hl⟩ := I.loc
  obtain ⟨u, r, l⟩ := hl i x v hN e hv
  have fin : EP X pins σ Q u s := ⟨v, H, I, r, h⟩
  rcases l with ⟨hk, hm⟩ | ⟨hk, c, hc, hcell⟩
  · exact wpAny_Name (wpAny_loadName_local I.ok.kind hk hn hm fin) hd
  · rcases hk with hk | hk
    · exact wpAny_Name (wpAny_loadName_cell I.ok.kind hk hc hcell fin) hd
    · exact wpAny_Name (wpAny_loadName_free I.ok.kind hk hc hcell fin hcd) hd
theorem pe_int {i j pos} : PE X (.Constant (.int i) j pos) (tC (.int i)) := fun _ _ _ H _ I h => wpAny_Constant_int ⟨.int i, H, I.tok _, ⟨_, rfl⟩, h⟩
theorem pe_bl {b j pos} : PE X (.Constant (.bool b) j pos) (tC (.bl b)) := fun _ _ _ H _ I h => Constant_bool ⟨.bl b, H, I, rfl, h⟩
theorem pe_str {x j pos} : PE X (.Constant (.str x) j pos) (tC (.str x)) := fun _ _ _ H _ I h => Calls.Constant_str ⟨.str x, H, I.tok _, ⟨_, rfl⟩, h⟩
def Gl (X : Cx) (x : Str) : Prop := X.env.kindOf x = some .globalImplicit
theorem ld_glob {E : Value → Shared → Prop} {pins : List (Addr × Obj)} {s : Shared} {σ : St} {H : Hp} {x : Str} {u : Value} {pos : Pos} {Q : Value → Shared → Prop} (I : Inv X pins σ H s) (hg : Gl X x) (hm : X.mg x = some u) (h : Q u s)
    (hd : (x == ("__debug__" : Str)) = false := by decide) : wpAny (model X.prog X.w) X.A (eval (.Name x pos) X.env) Q E s :=
  Calls.Name_function_global I.ok.kind hg (Calls.loadGlobal_global (by rw [I.ok.glob]; exact I.mod.glob.keeps I.bk) hm h) hd
theorem ld_blt {E : Value → Shared → Prop} {pins : List (Addr × Obj)} {s : Shared} {σ : St} {H : Hp} {x : Str} {u : Value} {pos : Pos} {Q : Value → Shared → Prop} (I : Inv X pins σ H s) (hg : Gl X x) (hm : X.mg x = none) (hv : bootBuiltins x = some u) (h : Q u s)
    (hn : x ≠ "__name__" := by decide) (hd : (x == ("__debug__" : Str)) = false := by decide) : wpAny (model X.prog X.w) X.A (eval (.Name x pos) X.env) Q E s := by
  obtain ⟨mb, h1, h2⟩ := I.mod.blt
  exact Calls.Name_function_global I.ok.kind hg (Calls.loadGlobal_builtin (by rw [I.ok.glob]; exact I.mod.glob.keeps I.bk) hm (by rw [I.ok.blt]; exact h1.keeps I.bk) ((h2 x hn).trans hv) h) hd
theorem pe_glob {x : Str} {v : V} {u : Value} {pos : Pos} (hg : Gl X x) (hm : X.mg x = some u) (r : RelV v u) (hd : (x == ("__debug__" : Str)) = false := by decide) : PE X (.Name x pos) (tC v) :=
  fun _ _ _ H _ I h => ld_glob I hg hm ⟨v, H, I, r, h⟩ hd
theorem pe_bltn {x : Str} {v : V} {u : Value} {pos : Pos} (hg : Gl X x) (hm : X.mg x = none) (hv : bootBuiltins x = some u) (r : RelV v u) (hn : x ≠ "__name__" := by decide) (hd : (x == ("__debug__" : Str)) = false := by decide) : PE X (.Name x pos) (tC v) :=
  fun _ _ _ H _ I h => ld_blt I hg hm hv ⟨v, H, I, r, h⟩ hn hd
variable {a b : Expr} {ta tb : TE} {pos : Pos}
variable {tA tB' : TT} {rest : List Expr}
def tOr (t u : TT) : TT := fun σ H Q => t σ H fun c H1 => if c = true then Q true H1 else u σ H1 Q
def tNot (t : TT) : TT := fun σ H Q => t σ H fun c H1 => Q (!c) H1
theorem pw_or1 (ha : PT X a tA) : PW X (.BoolOp .Or [a] pos) tA := by
  intro wh pins s σ H Q I h
  refine isTrue_or (thn (ha pins s σ H Q I h) fun c s1 e => ?_)
  cases c with
  | false => exact isTrue_or_nil e
  | true => exact e
theorem pw_or (ha : PT X a tA) (hb : PW X (.BoolOp .Or (b :: rest) pos) tB') : PW X (.BoolOp .Or (a :: b :: rest) pos) (tOr tA tB') := by
  intro wh pins s σ H Q I h
  refine isTrue_or (thn (ha pins s σ H _ I h) fun c s1 ⟨H1, I1, q1⟩ => ?_)
  cases c with
  | true => exact ⟨H1, I1, q1⟩
  | false => exact hb wh pins s1 σ H1 Q I1 q1
theorem pt_not (ha : PT X a tA) : PT X (.UnaryOp .Not a pos) (tNot tA) := by
  intro pins s σ H Q I h
  exact isTrue_not (ha pins s σ H (fun c H1 => Q (!c) H1) I h)
def tAndV (ta tb : TE) : TE := fun σ H Q => ta σ H fun x H1 => ∃ c, x = .bl c ∧ if c = true then tb σ H1 Q else Q (.bl false) H1
def tNotV (ta : TE) : TE := fun σ H Q => ta σ H fun x H1 => ∃ c, x = .bl c ∧ Q (.bl (!c)) H1
theorem pe_one {op} {t : TE} (h : PE X a t) : PE X (.BoolOp op [a] pos) t := fun pins s σ H Q I hw => BoolOp_one (h pins s σ H Q I hw)
theorem pe_and (ha : PE X a ta) (hb : PE X (.BoolOp .And (b :: rest) pos) tb) : PE X (.BoolOp .And (a :: b :: rest) pos) (tAndV ta tb) := by
  intro pins s σ H Q I h
  refine BoolOp_and (thn (ha pins s σ H _ I h) fun v s1 ⟨x, H1, I1, r1, q1⟩ => ?_)
  obtain ⟨c, rfl, q1⟩ := q1
  cases r1
  refine wpAny_truthy_bool ?_
  cases c with
  | true => exact hb pins s1 σ H1 Q I1 q1
  | false => exact ⟨.bl false, H1, I1, rfl, q1⟩
theorem pe_not (ha : PE X a ta) : PE X (.UnaryOp .Not a pos) (tNotV ta) := by
  intro pins s σ H Q I h
  refine UnaryOp_ (thn (ha pins s σ H _ I h) fun v s1 ⟨x, H1, I1, r1, q1⟩ => ?_)
  obtain ⟨c, rfl, q1⟩ := q1
  cases r1
  exact not_of (wpAny_truthy_bool ⟨.bl (!c), H1, I1, rfl, q1⟩)
end
end L2
namespace L2
open PySem PySem.Spec PyProof.Rows
def SqL (K : PySem.W.Frag) (H : Hp) (a : Addr) (xs : List V) : Prop :=
  Rd H a (.lst xs) ∨
    ∃ (o : Obj) (its : Array Value) (n : Nat), K.lookup a = some o ∧ o.cls = .type "list" ∧ o.dict = none ∧ o.data = .seq its n ∧ its.size ≤ sizeLine ∧ Vals xs its.toList
def SqT (K : PySem.W.Frag) (H : Hp) (a : Addr) (xs : List V) : Prop :=
  Rd H a (.tup xs) ∨
    ∃ (o : Obj) (its : Array Value) (n : Nat), K.lookup a = some o ∧ o.cls = .type "tuple" ∧ o.data = .seq its n ∧ its.size ≤ sizeLine ∧ Vals xs its.toList
def absV : Value → Option V
  | .none => some .non
  | .bool b => some (.bl b)
  | .int i _ => some (.int i)
  | .str x _ => some (.str x)
  | .bytes b _ => some (.byt b)
  | .float b _ => some (.flt b)
  | .ref a => some (.ref a)
  | .type n => some (.ty n)
  | _ => none
theorem RelV.abs {x : V} {u : Value} (r : RelV x u) : absV u = some x := by
  cases x with
  | non => cases r; rfl
  | bl _ => cases r; rfl
  | int _ => obtain ⟨t, rfl⟩ := r; rfl
  | str _ => obtain ⟨t, rfl⟩ := r; rfl
  | byt _ => obtain ⟨t, rfl⟩ := r; rfl
  | flt _ => obtain ⟨t, rfl⟩ := r; rfl
  | ref _ => cases r; rfl
  | ty _ => cases r; rfl
theorem RelV.inj {x y : V} {u : Value} (r : RelV x u) (q : RelV y u) : x = y := Option.some.inj (r.abs.symm.trans q.abs)
theorem Vals.inj : ∀ {xs ys : List V} {us : List Value}, Vals xs us → Vals ys us → xs = ys
  | _, _, _, .nil, .nil => rfl
  | _, _, _, .cons r t, .cons r' t' => by rw [r.inj r', Vals.inj t t']
section
variable {X : Cx} {pins : List (Addr × Obj)} {σ : St} {H : Hp} {s : Shared} {a : Addr} {xs ys : List V}
theorem SqL.of {K : PySem.W.Frag} (h : H a = some (.lst xs)) : SqL K H a xs := .inl (.inl h)
theorem SqT.of {K : PySem.W.Frag} (h : H a = some (.tup xs)) : SqT K H a xs := .inl (.inl h)
theorem Inv.list (I : Inv X pins σ H s) (h : SqL X.K H a xs) : ∃ its : List Value, Vals xs its ∧ PlainL s.heap a its.toArray ∧ xs.length ≤ sizeLine := by
  rcases h with h | ⟨o, its, n, hk, hc, hd, hs, hz, r⟩
  · obtain ⟨z, its, n, r, e⟩ := h.ok I.hok
    exact ⟨its, r, ⟨_, n, e, rfl, rfl, rfl⟩, z⟩
  · refine ⟨its.toList, r, ⟨o, n, I.kIn a o hk, hc, hd, by simpa using hs⟩, ?_⟩
    have e := r.length
    simp only [Array.length_toList] at e
    omega
theorem Inv.tuple (I : Inv X pins σ H s) (h : SqT X.K H a xs) : ∃ its : List Value, Vals xs its ∧ IsTup s.heap a its.toArray ∧ xs.length ≤ sizeLine := by
  rcases h with h | ⟨o, its, n, hk, hc, hs, hz, r⟩
  · obtain ⟨z, its, r, p⟩ := h.ok I.hok
    exact ⟨its, r, p, z⟩
  · refine ⟨its.toList, r, ⟨o, I.kIn a o hk, hc, n, by simpa using hs⟩, ?_⟩
    have e := r.length
    simp only [Array.length_toList] at e
    omega
theorem Inv.list_inj (I : Inv X pins σ H s) (h : SqL X.K H a xs) (h' : SqL X.K H a ys) : xs = ys := by
  obtain ⟨its, r, ⟨o, n, e, _, _, d⟩, _⟩ := I.list h
  obtain ⟨its', r', ⟨o', n', e', _, _, d'⟩, _⟩ := I.list h'
  rw [e] at e'; cases e'
  rw [d] at d'
  injection d' with d1 _
  have : its = its' := by simpa using congrArg Array.toList d1
  subst this
  exact r.inj r'
theorem Inv.tuple_inj (I : Inv X pins σ H s) (h : SqT X.K H a xs) (h' : SqT X.K H a ys) : xs = ys := by
  obtain ⟨its, r, ⟨o, e, _, n, d⟩, _⟩ := I.tuple h
  obtain ⟨its', r', ⟨o', e', _, n', d'⟩, _⟩ := I.tuple h'
  rw [e] at e'; cases e'
  rw [d] at d'
  injection d' with d1 _
  have : its = its' := by simpa using congrArg Array.toList d1
  subst this
  exact r.inj r'
end
abbrev Cx.wish (X : Cx) (E : Value → Shared → Prop) : Cx := { X with xe := E }
abbrev Cx.nox (X : Cx) : Cx := X.wish fun _ _ => False
theorem Cx.Ok.wish {X : Cx} (ok : X.Ok) (E : Value → Shared → Prop) : (X.wish E).Ok :=
  ⟨ok.mod, ok.kind, ok.glob, ok.blt, ok.above, ok.inj, ok.has, ok.cab, ok.hd, ok.frames, ok.stk, ok.exf, ok.bs, ok.bsz, ok.noex, ok.exfs, ok.funs, ok.frf⟩
theorem Cx.Ok.unwish {X : Cx} {E : Value → Shared → Prop} (ok : (X.wish E).Ok) : X.Ok :=
  ⟨ok.mod, ok.kind, ok.glob, ok.blt, ok.above, ok.inj, ok.has, ok.cab, ok.hd, ok.frames, ok.stk, ok.exf, ok.bs, ok.bsz, ok.noex, ok.exfs, ok.funs, ok.frf⟩
section
variable {X : Cx} {pins : List (Addr × Obj)} {σ : St} {H : Hp} {s : Shared} {E : Value → Shared → Prop}
theorem Inv.wish (I : Inv X pins σ H s) (E : Value → Shared → Prop) : Inv (X.wish E) pins σ H s := ⟨I.ok.wish E, I.os, I.bare, I.base, I.loc, I.cell, I.free, I.freeC, I.pin, I.hok, I.len⟩
theorem Inv.unwish (I : Inv (X.wish E) pins σ H s) : Inv X pins σ H s := ⟨I.ok.unwish, I.os, I.bare, I.base, I.loc, I.cell, I.free, I.freeC, I.pin, I.hok, I.len⟩
theorem SP.unwish {D : Ends} {f : Flow} {s' : Shared} (h : SP (X.wish E) pins D f s') : SP X pins D f s' := by
  cases f with
  | next => obtain ⟨σ', H', I, q⟩ := h; exact ⟨σ', H', I.unwish, q⟩
  | brk => obtain ⟨σ', H', I, q⟩ := h; exact ⟨σ', H', I.unwish, q⟩
  | cont => obtain ⟨σ', H', I, q⟩ := h; exact ⟨σ', H', I.unwish, q⟩
  | ret u => obtain ⟨v, σ', H', I, r, q⟩ := h; exact ⟨v, σ', H', I.unwish, r, q⟩
theorem PE.nox {e : Expr} {t : TE} (h : PE X.nox e t) : PE X e t := fun pins s σ H Q I hw =>
  wpAny_mono (h pins s σ H Q (I.wish _) hw) (fun _ _ ⟨v, H', I', r, q⟩ => ⟨v, H', I'.unwish, r, q⟩) fun _ _ z => False.elim z
theorem PT.nox {e : Expr} {t : TT} (h : PT X.nox e t) : PT X e t := fun pins s σ H Q I hw =>
  wpAny_mono (h pins s σ H Q (I.wish _) hw) (fun _ _ ⟨H', I', q⟩ => ⟨H', I'.unwish, q⟩) fun _ _ z => False.elim z
theorem PSs.nox {st : List Stmt} {t : TS} (h : PSs X.nox st t) : PSs X st t := fun pins s σ H D I hw =>
  wpAny_mono (h pins s σ H D (I.wish _) hw) (fun _ _ q => q.unwish) fun _ _ z => False.elim z
end
section
variable {X : Cx} {st : Stmt} {rest : List Stmt} {t u : TS} {e : Expr} {te : TE} {pos : Pos}
def tNext : TS := fun D σ H => D.nx σ H
def tSeq (t u : TS) : TS := fun D σ H => t { D with nx := u D } σ H
theorem pss_nil : PSs X [] tNext := fun _ _ σ H _ I h => wpAny_execs_nil ⟨σ, H, I, h⟩
theorem pss_cons (h1 : PS X st t) (h2 : PSs X rest u) : PSs X (st :: rest) (tSeq t u) := by
  intro pins s σ H D I h
  refine wpAny_execs_cons (thn (h1 pins s σ H { D with nx := u D } I h) fun f s1 q => ?_)
  cases f with
  | next =>
    obtain ⟨σ', H', I', q⟩ := q
    exact h2 pins s1 σ' H' D I' q
  | ret v => exact q
  | brk => exact q
  | cont => exact q
theorem pss_one (h1 : PS X st t) : PSs X [st] t := by
  intro pins s σ H D I h
  refine wpAny_execs_cons (thn (h1 pins s σ H D I h) fun f s1 q => ?_)
  cases f with
  | next => exact wpAny_execs_nil q
  | ret v => exact q
  | brk => exact q
  | cont => exact q
theorem Inv.quiet {pins : List (Addr × Obj)} {σ : St} {H : Hp} {s : Shared} (I : Inv X pins σ H s) : interactive X.env = false := by simp [interactive, I.ok.kind]
def tDrop (te : TE) : TS := fun D σ H => te σ H fun _ H1 => D.nx σ H1
theorem ps_expr (he : PE X e te) (hs : swapsWith e none pos.line X.env = pure false := by rfl) : PS X (.Expr e pos) (tDrop te) := by
  intro pins s σ H D I h
  exact wpAny_Expr_any (thn (he pins s σ H _ I h) fun v s1 ⟨x, H1, I1, r1, q1⟩ => ⟨σ, H1, I1, q1⟩) I.quiet hs
def tRet (te : TE) : TS := fun D σ H => te σ H D.rt
theorem ps_ret (he : PE X e te) : PS X (.Return (some e) pos) (tRet te) := by
  intro pins s σ H D I h
  exact wpAny_Return_some (thn (he pins s σ H _ I h) fun v s1 ⟨x, H1, I1, r1, q1⟩ => ⟨x, σ, H1, I1, r1, q1⟩)
def tIfS (c : TT) (t u : TS) : TS := fun D σ H => c σ H fun b H1 => if b = true then t D σ H1 else u D σ H1
theorem ps_if {c : Expr} {a b : List Stmt} {tc : TT} (hc : PT X c tc) (ha : PSs X a t) (hb : PSs X b u) : PS X (.If c a b pos) (tIfS tc t u) := by
  intro pins s σ H D I h
  refine wpAny_If (thn (hc pins s σ H _ I h) fun d s1 ⟨H1, I1, q1⟩ => ?_)
  cases d with
  | true => exact ha pins s1 σ H1 D I1 q1
  | false => exact hb pins s1 σ H1 D I1 q1
end
abbrev TG := V → St → Hp → (St → Hp → Prop) → Prop
abbrev TGs := List V → St → Hp → (St → Hp → Prop) → Prop
def PG (X : Cx) (target : Expr) (t : TG) : Prop :=
  ∀ (pins : List (Addr × Obj)) (s : Shared) (σ : St) (H : Hp) (v : V) (u : Value) (Q : St → Hp → Prop), Inv X pins σ H s → RelV v u → t v σ H Q →
    wpAny (model X.prog X.w) X.A (assign target X.env u) (fun _ s' => ∃ σ' H', Inv X pins σ' H' s' ∧ Q σ' H') X.xe s
def PGs (X : Cx) (ts : List Expr) (t : TGs) : Prop :=
  ∀ (pins : List (Addr × Obj)) (s : Shared) (σ : St) (H : Hp) (vs : List V) (us : List Value) (Q : St → Hp → Prop), Inv X pins σ H s → Vals vs us → t vs σ H Q →
    wpAny (model X.prog X.w) X.A (assignInOrder ((assignEach ts X.env).map (·.2)) us) (fun _ s' => ∃ σ' H', Inv X pins σ' H' s' ∧ Q σ' H') X.xe s
abbrev TSet := V → V → V → Hp → (Hp → Prop) → Prop
def PSet (X : Cx) (t : TSet) : Prop :=
  ∀ (pins : List (Addr × Obj)) (s : Shared) (σ : St) (H : Hp) (o i v : V) (ov iv u : Value) (Q : Hp → Prop), Inv X pins σ H s → RelV o ov → RelV i iv → RelV v u → t o i v H Q →
    wpAny (model X.prog X.w) X.A (setItem ov iv u) (fun _ s' => ∃ H', Inv X pins σ H' s' ∧ Q H') X.xe s
section
variable {X : Cx} {pos : Pos}
def gName (i : Nat) : TG := fun v σ H Q => Q (σ.set i (some v)) H
theorem pg_name {i : Nat} {x : Str} (hN : X.N.Nodup) (hi : X.N[i]? = some x) (hx : Loc X.env.scope x) (hf : X.fn x = true ∨ X.env.scope.names.lookup x = some .local := by first | exact .inl rfl | exact .inr rfl | assumption) : PG X (.Name x pos) (gName i) := by
  intro pins s σ H v u Q I r h
  exact wpAny_assign_Name (store_ok I hN hi hx r (fun s' I' => ⟨_, H, I', h⟩) hf)
def gNil : TGs := fun vs σ H Q => vs = [] ∧ Q σ H
def gCons (t : TG) (u : TGs) : TGs := fun vs σ H Q => ∃ v r, vs = v :: r ∧ t v σ H fun σ' H' => u r σ' H' Q
theorem pgs_nil : PGs X [] gNil := by
  intro pins s σ H vs us Q I r h
  obtain ⟨e, h⟩ := h
  subst e
  cases r
  exact assignInOrder_nil ⟨σ, H, I, h⟩
theorem pgs_cons {e : Expr} {es : List Expr} {t : TG} {u : TGs} (h1 : PG X e t) (h2 : PGs X es u)
    (hs : (assignEach (e :: es) X.env).map (·.2) = assign e X.env :: (assignEach es X.env).map (·.2) := by rfl) : PGs X (e :: es) (gCons t u) := by
  intro pins s σ H vs us Q I r h
  obtain ⟨v, vr, e1, h⟩ := h
  subst e1
  cases r with
  | cons r rr =>
    rw [hs]
    refine assignInOrder_cons (thn (h1 pins s σ H _ _ _ I r h) fun _ s1 ⟨σ1, H1, I1, q1⟩ => ?_)
    exact h2 pins s1 σ1 H1 _ _ Q I1 rr q1
def gTup (K : PySem.W.Frag) (n : Nat) (t : TGs) : TG := fun v σ H Q => ∃ a xs, v = .ref a ∧ SqT K H a xs ∧ xs.length = n ∧ t xs σ H Q
theorem pg_tup {es : List Expr} {k : Nat} {t : TGs} {n : Nat} (hc : X.calm = true) (h : PGs X es t)
    (hn : (assignEach es X.env).length = n := by rfl) (hst : (assignEach es X.env).findIdx? (·.1) = none := by rfl) : PG X (.Tuple es k pos) (gTup X.K n t) := by
  intro pins s σ H v u Q I r hw
  obtain ⟨a, xs, e1, hq, hl, hw⟩ := hw
  subst e1
  cases r
  obtain ⟨its, rv, ht, hz⟩ := I.tuple hq
  refine assign_Tuple_tuple (I.ok.hd hc) ht (by simp [hn, ← hl, rv.length]) hst fun h' hx => ?_
  have I1 : Inv X pins σ H { s with heap := h' } := I.kept (t' := s.toks) fun b o e => hx b o (Nat.ne_of_lt (Heap.lt_size e)) e
  exact h pins _ σ H xs _ Q I1 (by simpa using rv) hw
def gSub (to ti : TE) (t : TSet) : TG := fun v σ H Q => to σ H fun o H1 => ti σ H1 fun i H2 => t o i v H2 fun H3 => Q σ H3
theorem pg_sub {o i : Expr} {to ti : TE} {t : TSet} (ho : PE X o to) (hi : PE X i ti) (hs : PSet X t)
    (ha : ∀ v, assign (.Subscript o i pos) X.env v = (do
      let ov ← holding [v] (eval o X.env)
      let iv ← holding [v, ov] (eval i X.env)
      standAt pos
      holding [v, ov, iv] (setItem ov iv v)
      release [v, ov, iv] []) := by intro _; rfl) : PG X (.Subscript o i pos) (gSub to ti t) := by
  intro pins s σ H v u Q I r h
  rw [ha]
  refine wpAny_bind (wpAny_holding (thn (ho pins s σ H _ I h) fun ov s1 ⟨x, H1, I1, r1, q1⟩ => ?_))
  refine wpAny_bind (wpAny_holding (thn (hi pins s1 σ H1 _ I1 q1) fun iv s2 ⟨y, H2, I2, r2, q2⟩ => ?_))
  refine wpAny_bind (wpAny_standAt (wpAny_bind (wpAny_holding (thn (hs pins s2 σ H2 x y v ov iv u _ I2 r1 r2 r q2) fun _ s3 ⟨H3, I3, q3⟩ => ?_))))
  exact wpAny_release ⟨σ, H3, I3, q3⟩
def tAsg (te : TE) (g : TG) : TS := fun D σ H => te σ H fun x H1 => g x σ H1 D.nx
theorem ps_asg {tg e : Expr} {te : TE} {g : TG} (he : PE X e te) (hg : PG X tg g) (hs : swapsWithSole [tg] e pos.line X.env = pure false := by rfl) (hw : swappedStores [tg] e X.env = pure none := by rfl)
    (h1 : (assignEach [tg] X.env).map (·.2) = [assign tg X.env] := by rfl) : PS X (.Assign [tg] e pos) (tAsg te g) := by
  intro pins s σ H D I h
  refine wpAny_Assign_stores (thn (he pins s σ H _ I h) fun v s1 ⟨x, H1, I1, r1, q1⟩ => ?_) hs hw
  rw [h1]
  exact thn (hg pins s1 σ H1 x v _ I1 r1 q1) fun _ s2 q => q
theorem ps_set {i : Nat} {x : Str} {e : Expr} {te : TE} {pos' : Pos} (hN : X.N.Nodup) (hi : X.N[i]? = some x) (hx : Loc X.env.scope x) (he : PE X e te) (hs : swapsWith e (some (.Name x pos')) pos.line X.env = pure false := by rfl) (hf : X.fn x = true ∨ X.env.scope.names.lookup x = some .local := by first | exact .inl rfl | exact .inr rfl | assumption) :
    PS X (.Assign [.Name x pos'] e pos) (tAsg te (gName i)) := by
  intro pins s σ H D I h
  refine wpAny_Assign_Name (thn (he pins s σ H _ I h) fun v s1 ⟨y, H1, I1, r1, q1⟩ => ?_) hs
  exact store_ok I1 hN hi hx r1 (fun s2 I2 => ⟨_, H1, I2, q1⟩) hf
end
section
variable {X : Cx} {pos : Pos}
end
structure It where
  go : Nat → Hp → Prop
  yld : Nat → Hp → V → Hp → Prop
  stop : Nat → Hp → Prop
def FpOk (X : Cx) (pins : List (Addr × Obj)) (H : Hp) (b : Addr) : Prop :=
  H b = none ∧ b ≠ X.env.locals ∧ b ∉ X.fs ∧ (b ∈ X.ex ∨ X.s₀.heap.objs.size ≤ b) ∧ (∀ x c, X.env.cells.lookup x = some c → c ≠ b) ∧ ∀ p ∈ X.pn ++ pins, p.1 ≠ b
theorem Inv.fpOk {X : Cx} {pins : List (Addr × Obj)} {σ : St} {H H' : Hp} {s : Shared} {b : Addr} (I : Inv X pins σ H s) (hb : s.heap.objs.size ≤ b) (hn : H' b = none) : FpOk X pins H' b := by
  refine ⟨hn, Nat.ne_of_gt (Nat.lt_of_lt_of_le I.lt hb), I.nofs hb, .inr (Nat.le_trans I.sz hb), fun x c e z => ?_, fun p hp z => ?_⟩
  · obtain ⟨v, q⟩ := I.cell x c e
    exact absurd (Nat.lt_of_lt_of_le q.lt (by rw [z]; exact hb)) (Nat.lt_irrefl _)
  · exact absurd (Nat.lt_of_lt_of_le (Heap.lt_size (I.pin p hp).1) (by rw [z]; exact hb)) (Nat.lt_irrefl _)
structure Turn (P : Program) (w : World) (K : PySem.W.Frag) (tg : Expr) (J : It) (fp : List Addr) (it : Addr) (tn : Nat → Heap → Prop) : Prop where
  mem : it ∈ fp
  obj : ∀ i h, tn i h → ∀ b ∈ fp, ∃ o, h.get? b = some o ∧ ∀ v, o.data ≠ .cell v
  keep : ∀ i h h', tn i h → (∀ b ∈ fp, ∀ o, h.get? b = some o → h'.get? b = some o) → tn i h'
  item : ∀ (X : Cx), X.prog = P → X.w = w → X.K = K → X.calm = true → ∀ (i : Nat) (pins : List (Addr × Obj)) (s : Shared) (σ : St) (H : Hp) (E : Value → Shared → Prop), Inv X pins σ H s → (∀ b ∈ fp, FpOk X pins H b) → tn i s.heap → J.go i H →
    wpAny (model P w) X.A (pyNext (.ref it)) (fun r s1 => ∃ u, r = some u ∧
      wpAny (model P w) X.A (letOwnedTupleGo tg (.ref it) u) (fun _ s2 => ∃ x H', Inv X pins σ H' s2 ∧ RelV x u ∧ J.yld i H x H' ∧ tn (i + 1) s2.heap ∧ ∀ b ∈ fp, H' b = none) E s1) E s
  done : ∀ (X : Cx), X.prog = P → X.w = w → X.K = K → X.calm = true → ∀ (i : Nat) (pins : List (Addr × Obj)) (s : Shared) (σ : St) (H : Hp) (E : Value → Shared → Prop), Inv X pins σ H s → (∀ b ∈ fp, FpOk X pins H b) → tn i s.heap → J.stop i H →
    wpAny (model P w) X.A (pyNext (.ref it)) (fun r s1 => r = none ∧ Inv X pins σ H s1) E s
  self : ∀ (A : Around) (i : Nat) (s : Shared) (Q : Value → Shared → Prop) (E : Value → Shared → Prop), tn i s.heap → Q (.ref it) s → wpAny (model P w) A (pyIter (.ref it)) Q E s
abbrev TI := St → Hp → (It → Hp → Prop) → Prop
def PIE (X : Cx) (pins : List (Addr × Obj)) (σ : St) (tg : Expr) (R : It → Hp → Prop) (itv : Value) (s2 : Shared) : Prop :=
  ∃ (it : Addr) (fp : List Addr) (tn : Nat → Heap → Prop) (J : It) (H' : Hp), itv = .ref it ∧ Inv X pins σ H' s2 ∧ Turn X.prog X.w X.K tg J fp it tn ∧ tn 0 s2.heap ∧ (∀ b ∈ fp, FpOk X pins H' b) ∧ R J H'
def PI (X : Cx) (tg iter : Expr) (wi : TI) : Prop :=
  ∀ (pins : List (Addr × Obj)) (s : Shared) (σ : St) (H : Hp) (R : It → Hp → Prop), Inv X pins σ H s → wi σ H R →
    wpAny (model X.prog X.w) X.A (eval iter X.env) (fun v s1 => wpAny (model X.prog X.w) X.A (pyIter v) (PIE X pins σ tg R) X.xe s1) X.xe s
theorem go_of {M : Model} {A : Around} {E : Value → Shared → Prop} {s : Shared} {tg : Expr} {it : Addr} {u : Value} {o : Obj} {n : String} {vs : Array Value} {Q : Unit → Shared → Prop} (ho : s.heap.get? it = some o) (hc : o.cls = .type n) (hd : o.data = .fields vs)
    (hn : ["enumerate", "zip", "dict_itemiterator", "dict_reverseitemiterator", "odict_iterator", "itertools.zip_longest", "itertools.pairwise"].contains n = false) (hQ : Q () s) : wpAny M A (letOwnedTupleGo tg (.ref it) u) Q E s := by
  unfold letOwnedTupleGo
  cases tg <;> first
    | exact wpAny_pure hQ
    | (cases u <;> first
        | exact wpAny_pure hQ
        | (refine wpAny_bind (wpAny_load ho ?_)
           rw [hc, hd]
           show wpAny M A (if (["enumerate", "zip", "dict_itemiterator", "dict_reverseitemiterator", "odict_iterator", "itertools.zip_longest", "itertools.pairwise"].contains n && vs[0]? == some (rawInt _)) = true then _ else _) Q E s
           rw [if_neg (by intro h; rw [hn, Bool.false_and] at h; cases h)]
           exact wpAny_pure hQ))
def Itl (K : PySem.W.Frag) (a : Addr) : It :=
  ⟨fun i H => ∃ xs x, SqL K H a xs ∧ xs[i]? = some x, fun i H x H' => H' = H ∧ ∀ xs, SqL K H a xs → xs[i]? = some x, fun i H => ∃ xs, SqL K H a xs ∧ xs.length ≤ i⟩
def Itt (K : PySem.W.Frag) (a : Addr) : It :=
  ⟨fun i H => ∃ xs x, SqT K H a xs ∧ xs[i]? = some x, fun i H x H' => H' = H ∧ ∀ xs, SqT K H a xs → xs[i]? = some x, fun i H => ∃ xs, SqT K H a xs ∧ xs.length ≤ i⟩
def Itr (lo : Int) (n : Nat) : It := ⟨fun i _ => i < n, fun i H x H' => H' = H ∧ x = .int (lo + i), fun i _ => n ≤ i⟩
theorem turn_list {P : Program} {w : World} {K : PySem.W.Frag} {tg : Expr} (a it : Addr) : Turn P w K tg (Itl K a) [it] it (fun i h => h.IsListIter it a i) where
  mem := by simp
  obj := fun i h st b hb => by
    have e : b = it := by simpa using hb
    subst e
    obtain ⟨o, e, c, d⟩ := st
    exact ⟨o, e, fun v z => by rw [d] at z; cases z⟩
  keep := fun i h h' st k => st.at fun o e => k it (by simp) o e
  item := by
    intro X hP hw hK hc i pins s σ H E I hf st hg
    subst hP hw hK
    obtain ⟨xs, x, hq, hx⟩ := hg
    obtain ⟨its, rv, p, hz⟩ := I.list hq
    obtain ⟨u, hu, ru⟩ := rv.get hx
    obtain ⟨f0, f1, f2, f3, f4, f5⟩ := hf it (by simp)
    refine wpAny_pyNext_list_item st p.isList (x := u) (by simpa using hu) fun h' st' sb => ?_
    have I1 : Inv X pins σ H { s with heap := h' } := I.turned (t' := s.toks) (fun b o hb e => (sb.2 b hb).trans e) f0 f1 f3 f4 f5
    obtain ⟨o, e, c, d⟩ := id st'
    exact ⟨u, rfl, go_of (s := { s with heap := h' }) e c d (by decide) ⟨x, H, I1, ru, ⟨rfl, fun ys hy => by rw [I.list_inj hy hq]; exact hx⟩, st', fun b hb => (hf b hb).1⟩⟩
  done := by
    intro X hP hw hK hc i pins s σ H E I hf st hg
    subst hP hw hK
    obtain ⟨xs, hq, hx⟩ := hg
    obtain ⟨its, rv, p, hz⟩ := I.list hq
    obtain ⟨f0, f1, f2, f3, f4, f5⟩ := hf it (by simp)
    have hl := rv.length
    exact wpAny_pyNext_list_end (I.ok.hd hc) st p.isList (by simp; omega) fun h' eb => ⟨rfl, I.turned (t' := s.toks) (fun b o hb e => eb b o hb e) f0 f1 f3 f4 f5⟩
  self := fun _ _ _ _ _ st h => wpAny_pyIter_listiter st h
theorem turn_tuple {P : Program} {w : World} {K : PySem.W.Frag} {tg : Expr} (a it : Addr) : Turn P w K tg (Itt K a) [it] it (fun i h => h.IsTupleIter it a i) where
  mem := by simp
  obj := fun i h st b hb => by
    have e : b = it := by simpa using hb
    subst e
    obtain ⟨o, e, c, d⟩ := st
    exact ⟨o, e, fun v z => by rw [d] at z; cases z⟩
  keep := fun i h h' st k => st.at fun o e => k it (by simp) o e
  item := by
    intro X hP hw hK hc i pins s σ H E I hf st hg
    subst hP hw hK
    obtain ⟨xs, x, hq, hx⟩ := hg
    obtain ⟨its, rv, p, hz⟩ := I.tuple hq
    obtain ⟨u, hu, ru⟩ := rv.get hx
    obtain ⟨f0, f1, f2, f3, f4, f5⟩ := hf it (by simp)
    refine wpAny_pyNext_tuple_item st (show s.heap.IsTuple a its.toArray from p) (x := u) (by simpa using hu) fun h' st' sb => ?_
    have I1 : Inv X pins σ H { s with heap := h' } := I.turned (t' := s.toks) (fun b o hb e => (sb.2 b hb).trans e) f0 f1 f3 f4 f5
    obtain ⟨o, e, c, d⟩ := id st'
    exact ⟨u, rfl, go_of (s := { s with heap := h' }) e c d (by decide) ⟨x, H, I1, ru, ⟨rfl, fun ys hy => by rw [I.tuple_inj hy hq]; exact hx⟩, st', fun b hb => (hf b hb).1⟩⟩
  done := by
    intro X hP hw hK hc i pins s σ H E I hf st hg
    subst hP hw hK
    obtain ⟨xs, hq, hx⟩ := hg
    obtain ⟨its, rv, p, hz⟩ := I.tuple hq
    obtain ⟨f0, f1, f2, f3, f4, f5⟩ := hf it (by simp)
    have hl := rv.length
    exact wpAny_pyNext_tuple_end (I.ok.hd hc) st (show s.heap.IsTuple a its.toArray from p) (by simp; omega) fun h' eb => ⟨rfl, I.turned (t' := s.toks) (fun b o hb e => eb b o hb e) f0 f1 f3 f4 f5⟩
  self := fun _ _ _ _ _ st h => wpAny_pyIter_tupleiter st h
theorem turn_range {P : Program} {w : World} {K : PySem.W.Frag} {tg : Expr} (it : Addr) (lo : Int) (n : Nat) : Turn P w K tg (Itr lo n) [it] it (fun i h => IsRangeIter h it (lo + (i : Nat) * 1) ((n : Int) - (i : Nat)) 1) where
  mem := by simp
  obj := fun i h st b hb => by
    have e : b = it := by simpa using hb
    subst e
    exact ⟨_, st, fun v z => by
      have z' : Data.fields _ = Data.cell v := z
      cases z'⟩
  keep := fun i h h' st k => k it (by simp) _ st
  item := by
    intro X hP hw hK hc i pins s σ H E I hf st hg
    subst hP hw hK
    obtain ⟨f0, f1, f2, f3, f4, f5⟩ := hf it (by simp)
    have W := Walks.range (prog := X.prog) (w := X.w) (I.ok.hd hc) it lo 1 n
    refine W.item i s _ _ hg st fun v h' tk hv st' kk => ?_
    obtain ⟨t, rfl⟩ := hv
    have I1 : Inv X pins σ H { s with heap := h', toks := tk } := I.turned (fun b o hb e => kk b o (by simpa using hb) e) f0 f1 f3 f4 f5
    refine ⟨_, rfl, go_of (s := { s with heap := h', toks := tk }) (n := "range_iterator") st' rfl rfl (by decide) ⟨.int (lo + i), H, I1, ⟨t, ?_⟩, ⟨rfl, rfl⟩, st', fun b hb => (hf b hb).1⟩⟩
    rw [Int.mul_one]
  done := by
    intro X hP hw hK hc i pins s σ H E I hf st hg
    subst hP hw hK
    obtain ⟨f0, f1, f2, f3, f4, f5⟩ := hf it (by simp)
    exact wpAny_pyNext_range_end (I.ok.hd hc) st (by have : n ≤ i := hg; omega) fun h' eb => ⟨rfl, I.turned (t' := s.toks) (fun b o hb e => eb b o hb e) f0 f1 f3 f4 f5⟩
  self := fun _ _ _ _ _ st h => wpAny_pyIter_rangeiter st h
end L2
namespace L2
open PySem PySem.Spec PyProof.Rows
section
variable {X : Cx} {tg : Expr}
def iList (K : PySem.W.Frag) (tl : TE) : TI := fun σ H R => tl σ H fun x H1 => ∃ a, x = .ref a ∧ (∃ xs, SqL K H1 a xs) ∧ R (Itl K a) H1
def iTup (K : PySem.W.Frag) (tl : TE) : TI := fun σ H R => tl σ H fun x H1 => ∃ a, x = .ref a ∧ (∃ xs, SqT K H1 a xs) ∧ R (Itt K a) H1
theorem pi_list {l : Expr} {tl : TE} (hl : PE X l tl) : PI X tg l (iList X.K tl) := by
  intro pins s σ H R I h
  refine thn (hl pins s σ H _ I h) fun v s1 ⟨x, H1, I1, r1, q1⟩ => ?_
  obtain ⟨a, e, ⟨xs, hq⟩, q⟩ := q1
  subst e
  cases r1
  obtain ⟨its, rv, p, hz⟩ := I1.list hq
  refine wpAny_pyIter_list p.isList ?_
  refine ⟨s1.heap.objs.size, [s1.heap.objs.size], _, _, H1, rfl, I1.kept (t' := s1.toks) fun b o e => Heap.get?_push_of_some _ e, turn_list a _, ⟨_, Heap.get?_push_size _ rfl, rfl, rfl⟩, fun b hb => ?_, q⟩
  have e : b = s1.heap.objs.size := by simpa using hb
  subst e
  exact I1.fpOk (Nat.le_refl _) (I1.hok.fresh (Nat.le_refl _))
theorem pi_tup {l : Expr} {tl : TE} (hl : PE X l tl) : PI X tg l (iTup X.K tl) := by
  intro pins s σ H R I h
  refine thn (hl pins s σ H _ I h) fun v s1 ⟨x, H1, I1, r1, q1⟩ => ?_
  obtain ⟨a, e, ⟨xs, hq⟩, q⟩ := q1
  subst e
  cases r1
  obtain ⟨its, rv, p, hz⟩ := I1.tuple hq
  refine wpAny_pyIter_tuple (show s1.heap.IsTuple a its.toArray from p) ?_
  refine ⟨s1.heap.objs.size, [s1.heap.objs.size], _, _, H1, rfl, I1.kept (t' := s1.toks) fun b o e => Heap.get?_push_of_some _ e, turn_tuple a _, ⟨_, Heap.get?_push_size _ rfl, rfl, rfl⟩, fun b hb => ?_, q⟩
  have e : b = s1.heap.objs.size := by simpa using hb
  subst e
  exact I1.fpOk (Nat.le_refl _) (I1.hok.fresh (Nat.le_refl _))
theorem range_it {pins : List (Addr × Obj)} {σ : St} {H : Hp} {s : Shared} {R : It → Hp → Prop} {E : Value → Shared → Prop} {lo hi : Int} {t u v : Tok} {tk : Nat} (I : Inv X pins σ H s) (h1 : -(2 ^ 62) ≤ lo) (h2 : lo < 2 ^ 62) (h3 : -(2 ^ 62) ≤ hi) (h4 : hi < 2 ^ 62)
    (q : R (Itr lo (hi - lo).toNat) H) : wpAny (model X.prog X.w) X.A (pyIter (.ref s.heap.objs.size)) (PIE X pins σ tg R) E { s with heap := s.heap.push { cls := .type "range", data := .fields #[.int lo t, .int hi u, .int 1 v] }, toks := tk } := by
  refine wpAny_pyIter_range (IsRange.new ..) (small_one h1 h2 h3 h4) ?_
  have I1 : Inv X pins σ H { s with heap := s.heap.push { cls := .type "range", data := .fields #[.int lo t, .int hi u, .int 1 v] }, toks := tk } := I.kept fun b o e => Heap.get?_push_of_some _ e
  refine ⟨(s.heap.push { cls := .type "range", data := .fields #[.int lo t, .int hi u, .int 1 v] }).objs.size, [(s.heap.push { cls := .type "range", data := .fields #[.int lo t, .int hi u, .int 1 v] }).objs.size], _, _, H, rfl,
    I1.kept (t' := tk) fun b o e => Heap.get?_push_of_some _ e, turn_range _ lo (hi - lo).toNat, ?_, fun b hb => ?_, q⟩
  · have e1 : lo + ((0 : Nat) : Int) * 1 = lo := by simp
    have e2 : (((hi - lo).toNat : Nat) : Int) - ((0 : Nat) : Int) = Builtin.Range.rangeSize lo hi 1 := by rw [rangeSize_one]; split <;> omega
    show IsRangeIter _ _ (lo + ((0 : Nat) : Int) * 1) ((((hi - lo).toNat : Nat) : Int) - ((0 : Nat) : Int)) 1
    rw [e1, e2]
    exact Heap.get?_push_size _ rfl
  · have e : b = (s.heap.push { cls := .type "range", data := .fields #[.int lo t, .int hi u, .int 1 v] }).objs.size := by simpa using hb
    subst e
    exact I1.fpOk (Nat.le_refl _) (I1.hok.fresh (Nat.le_refl _))
def iRng1 (ta : TA) : TI := fun σ H R => ta σ H fun vs H1 => ∃ j : Int, vs = [.int j] ∧ -(2 ^ 62) ≤ j ∧ j < 2 ^ 62 ∧ R (Itr 0 j.toNat) H1
theorem pi_range1 {a : Expr} {ta : TA} {p pos : Pos} (hg : Gl X "range") (hm : X.mg "range" = none) (ha : PA X [a] ta) (hs : starEach [a] X.env = [(false, eval a X.env)] := by rfl) : PI X tg (.Call (.Name "range" p) [a] [] pos) (iRng1 ta) := by
  intro pins s σ H R I h
  refine Call_ (ld_blt I hg hm boot_range (PyProof.Rows.callWith_type1 (thn (ha pos pins s σ H _ I h) fun us s1 ⟨vs, H1, I1, r1, q1⟩ => ?_) hs rfl))
  obtain ⟨j, e, q1, q2, q⟩ := q1
  subst e
  cases r1 with
  | cons r rr =>
    cases rr
    obtain ⟨t, rfl⟩ := r
    exact call_range_1 (range_it I1 (by omega) (by omega) q1 q2 (by simpa using q))
def tFor (wi : TI) (g : TG) (tb : TS) : TS := fun D σ H => wi σ H fun J H1 => ∃ W : Nat → Nat → St → Hp → Prop, (∃ m, W 0 m σ H1) ∧ ∀ i m σ H, W i m σ H →
  (J.stop i H ∧ D.nx σ H) ∨ (J.go i H ∧ ∃ N : St → Hp → Prop, (∀ σ' H', N σ' H' → ∃ m', m' < m ∧ W (i + 1) m' σ' H') ∧ ∀ x H', J.yld i H x H' → g x σ H' fun σ2 H2 => tb { D with nx := N, ct := N, bk := D.nx } σ2 H2)
def pinsAt (fp : List Addr) (h : Heap) : List (Addr × Obj) := fp.filterMap fun b => (h.get? b).map fun o => (b, o)
theorem mem_pinsAt {fp : List Addr} {h : Heap} {b : Addr} {o : Obj} (hb : b ∈ fp) (e : h.get? b = some o) : (b, o) ∈ pinsAt fp h := List.mem_filterMap.mpr ⟨b, hb, by rw [e]; rfl⟩
theorem of_pinsAt {fp : List Addr} {h : Heap} {p : Addr × Obj} (hp : p ∈ pinsAt fp h) : p.1 ∈ fp ∧ h.get? p.1 = some p.2 := by
  obtain ⟨b, hb, e⟩ := List.mem_filterMap.mp hp
  cases q : h.get? b with
  | none => rw [q] at e; cases e
  | some o =>
    rw [q] at e
    have e' : (b, o) = p := Option.some.inj e
    subst e'
    exact ⟨hb, q⟩
theorem Inv.pinned {pins : List (Addr × Obj)} {σ : St} {H : Hp} {s : Shared} {fp : List Addr} (I : Inv X pins σ H s) (hf : ∀ b ∈ fp, FpOk X pins H b) (ho : ∀ b ∈ fp, ∃ o, s.heap.get? b = some o ∧ ∀ v, o.data ≠ .cell v) : Inv X (pins ++ pinsAt fp s.heap) σ H s :=
  I.pins_of fun p hp => (List.mem_append.mp hp).elim (fun z => I.pin p (List.mem_append_right _ z)) fun z => by
    obtain ⟨hb, e⟩ := of_pinsAt z
    obtain ⟨f0, f1, f2, _⟩ := hf p.1 hb
    obtain ⟨o, e', d⟩ := ho p.1 hb
    rw [e] at e'; cases e'
    exact ⟨e, f0, f1, f2, d⟩
theorem Inv.unpinned {pins pl : List (Addr × Obj)} {σ : St} {H : Hp} {s : Shared} (I : Inv X (pins ++ pl) σ H s) : Inv X pins σ H s := I.pins_of fun p hp => I.pin p (List.mem_append_right _ (List.mem_append_left _ hp))
theorem ps_for {iter : Expr} {body : List Stmt} {wi : TI} {g : TG} {tb : TS} {pos : Pos} (hp : PassesOwn (model X.prog X.w) X.A X.env X.xe) (hc : X.calm = true) (hi : PI X tg iter wi) (hg : PG X tg g) (hb : PSs X body tb)
    (hs : ∀ x, foldedSetIterable iter X.env x = pure x := by intro _; rfl) : PS X (.For tg iter body [] pos) (tFor wi g tb) := by
  intro pins s σ H D I h
  refine wpAny_For (thn (hi pins s σ H _ I h) fun v s1 h1 => thn h1 fun itv s2 h2 => ?_) hs
  obtain ⟨it, fp, tn, J, H2, e, I2, T, st2, f2, W, ⟨m0, w0⟩, turn⟩ := h2
  subst e
  have stat : ∀ {H' : Hp}, (∀ b ∈ fp, H' b = none) → ∀ b ∈ fp, FpOk X pins H' b := fun hn b hb => ⟨hn b hb, (f2 b hb).2⟩
  refine codeAny_forLoop_any (fun n s' => ∃ i σ' H', Inv X pins σ' H' s' ∧ tn i s'.heap ∧ (∀ b ∈ fp, H' b = none) ∧ W i n σ' H') ?_ m0 ⟨0, σ, H2, I2, st2, fun b hb => (f2 b hb).1, w0⟩
  rintro n s3 ⟨i, σ3, H3, I3, st3, fr3, w3⟩
  rcases turn i n σ3 H3 w3 with ⟨stop, qn⟩ | ⟨go, N, hN, step⟩
  · refine wpAny_passesOwn hp (thn (T.done X rfl rfl rfl hc i pins s3 σ3 H3 X.xe I3 (stat fr3) st3 stop) fun r s4 ⟨hr, I4⟩ => ?_)
    subst hr
    exact wpAny_execs_nil ⟨σ3, H3, I4, qn⟩
  · refine wpAny_passesOwn hp (thn (T.item X rfl rfl rfl hc i pins s3 σ3 H3 X.xe I3 (stat fr3) st3 go) fun r s4 ⟨u, hr, h4⟩ => ?_)
    subst hr
    refine wpAny_passesOwn hp (thn h4 fun _ s5 ⟨x, H5, I5, r5, y5, st5, fr5⟩ => ?_)
    have I5' := I5.pinned (stat fr5) (T.obj _ _ st5)
    refine wpAny_passesOwn hp (thn (hg _ s5 σ3 H5 x u _ I5' r5 (step x H5 y5)) fun _ s6 ⟨σ6, H6, I6, q6⟩ => ?_)
    refine wpAny_passesOwn hp (thn (hb _ s6 σ6 H6 _ I6 q6) fun f s7 q7 => ?_)
    have again : ∀ {σ7 : St} {H7 : Hp}, Inv X (pins ++ pinsAt fp s5.heap) σ7 H7 s7 → N σ7 H7 → ∃ m, m < n ∧ ∃ i σ' H', Inv X pins σ' H' s7 ∧ tn i s7.heap ∧ (∀ b ∈ fp, H' b = none) ∧ W i m σ' H' := fun {σ7 H7} I7 n7 => by
      obtain ⟨m', hm, w7⟩ := hN σ7 H7 n7
      refine ⟨m', hm, i + 1, σ7, H7, I7.unpinned, T.keep _ _ _ st5 fun b hb o e => (I7.pin (b, o) (List.mem_append_right _ (List.mem_append_right _ (mem_pinsAt hb e)))).1, fun b hb => ?_, w7⟩
      obtain ⟨o, e, d⟩ := T.obj _ _ st5 b hb
      exact (I7.pin (b, o) (List.mem_append_right _ (List.mem_append_right _ (mem_pinsAt hb e)))).2.1
    cases f with
    | next => obtain ⟨σ7, H7, I7, n7⟩ := q7; exact again I7 n7
    | cont => obtain ⟨σ7, H7, I7, n7⟩ := q7; exact again I7 n7
    | brk => obtain ⟨σ7, H7, I7, q7⟩ := q7; exact ⟨σ7, H7, I7.unpinned, q7⟩
    | ret v => obtain ⟨x7, σ7, H7, I7, r7, q7⟩ := q7; exact ⟨x7, σ7, H7, I7.unpinned, r7, q7⟩
end
end L2
namespace L2
open PySem PySem.Spec PyProof.Rows
abbrev R2 := V → V → Hp → VK → Prop
def OpR (X : Cx) (f : Value → Value → Sem Value) (r : R2) : Prop :=
  ∀ (pins : List (Addr × Obj)) (s : Shared) (σ : St) (H : Hp) (x y : V) (v u : Value) (Q : VK), Inv X pins σ H s → RelV x v → RelV y u → r x y H Q →
    wpAny (model X.prog X.w) X.A (f v u) (EP X pins σ Q) X.xe s
def CallR (X : Cx) (f : Value) (r : List V → Hp → VK → Prop) : Prop :=
  ∀ (pins : List (Addr × Obj)) (s : Shared) (σ : St) (H : Hp) (xs : List V) (us : List Value) (Q : VK), Inv X pins σ H s → Vals xs us → r xs H Q →
    wpAny (model X.prog X.w) X.A (call f us) (EP X pins σ Q) X.xe s
def TruR (X : Cx) (r : V → Hp → (Bool → Hp → Prop) → Prop) : Prop :=
  ∀ (pins : List (Addr × Obj)) (s : Shared) (σ : St) (H : Hp) (x : V) (v : Value) (Q : Bool → Hp → Prop), Inv X pins σ H s → RelV x v → r x H Q →
    wpAny (model X.prog X.w) X.A (truthy v) (TP X pins σ Q) X.xe s
def tOp (r : R2) (ta tb : TE) : TE := fun σ H Q => ta σ H fun x H1 => tb σ H1 fun y H2 => r x y H2 Q
def rI (C : Int → Int → Prop) (g : Int → Int → V) : R2 := fun x y H Q => ∃ i j, x = .int i ∧ y = .int j ∧ C i j ∧ Q (g i j) H
def rI0 (g : Int → Int → V) : R2 := fun x y H Q => ∃ i j, x = .int i ∧ y = .int j ∧ Q (g i j) H
section
variable {X : Cx} {a b c : Expr} {ta tb tc : TE} {pos : Pos}
theorem binT (ha : PE X a ta) (hb : PE X b tb) {pins : List (Addr × Obj)} {s : Shared} {σ : St} {H : Hp} {R : V → V → Hp → Prop} (I : Inv X pins σ H s)
    (h : ta σ H fun x H1 => tb σ H1 fun y H2 => R x y H2) {Q : Value → Shared → Prop} {f : Value → Value → Sem Value}
    (hf : ∀ v u s2 x y H2, Inv X pins σ H2 s2 → RelV x v → RelV y u → R x y H2 → wpAny (model X.prog X.w) X.A (f v u) Q X.xe s2) :
    wpAny (model X.prog X.w) X.A (eval a X.env) (fun v s₁ => wpAny (model X.prog X.w) X.A (eval b X.env) (fun u s₂ => wpAny (model X.prog X.w) X.A (f v u) Q X.xe s₂) X.xe s₁) X.xe s := by
  refine thn (ha pins s σ H _ I h) fun v s1 ⟨x, H1, I1, r1, q1⟩ => ?_
  refine thn (hb pins s1 σ H1 _ I1 q1) fun u s2 ⟨y, H2, I2, r2, q2⟩ => ?_
  exact hf v u s2 x y H2 I2 r1 r2 q2
theorem pe_op {op : Operator} {r : R2} (ho : OpR X (binaryOp op) r) (ha : PE X a ta) (hb : PE X b tb) : PE X (.BinOp a op b pos) (tOp r ta tb) := by
  intro pins s σ H Q I h
  exact wpAny_BinOp (binT ha hb I h fun v u s2 x y H2 I2 rx ry q => ho pins s2 σ H2 x y v u Q I2 rx ry q)
theorem opI {f : Value → Value → Sem Value} {C : Int → Int → Prop} {g : Int → Int → Int}
    (rule : ∀ (i j : Int) (t u : Tok) (s : Shared) (Q : Value → Shared → Prop) (E : Value → Shared → Prop), C i j → Q (.int (g i j) s.toks) { s with toks := s.toks + 1 } → wpAny (model X.prog X.w) X.A (f (.int i t) (.int j u)) Q E s) :
    OpR X f (rI C fun i j => .int (g i j)) := by
  intro pins s σ H x y v u Q I rx ry h
  obtain ⟨i, j, rfl, rfl, hc, q⟩ := h
  obtain ⟨t, rfl⟩ := rx
  obtain ⟨t', rfl⟩ := ry
  exact rule i j t t' s _ _ hc ⟨.int (g i j), H, I.tok _, ⟨_, rfl⟩, q⟩
theorem opI0 {f : Value → Value → Sem Value} {g : Int → Int → Int}
    (rule : ∀ (i j : Int) (t u : Tok) (s : Shared) (Q : Value → Shared → Prop) (E : Value → Shared → Prop), Q (.int (g i j) s.toks) { s with toks := s.toks + 1 } → wpAny (model X.prog X.w) X.A (f (.int i t) (.int j u)) Q E s) :
    OpR X f (rI0 fun i j => .int (g i j)) := by
  intro pins s σ H x y v u Q I rx ry h
  obtain ⟨i, j, rfl, rfl, q⟩ := h
  obtain ⟨t, rfl⟩ := rx
  obtain ⟨t', rfl⟩ := ry
  exact rule i j t t' s _ _ ⟨.int (g i j), H, I.tok _, ⟨_, rfl⟩, q⟩
theorem opB0 {f : Value → Value → Sem Value} {g : Int → Int → Bool}
    (rule : ∀ (i j : Int) (t u : Tok) (s : Shared) (Q : Value → Shared → Prop) (E : Value → Shared → Prop), Q (.bool (g i j)) s → wpAny (model X.prog X.w) X.A (f (.int i t) (.int j u)) Q E s) :
    OpR X f (rI0 fun i j => .bl (g i j)) := by
  intro pins s σ H x y v u Q I rx ry h
  obtain ⟨i, j, rfl, rfl, q⟩ := h
  obtain ⟨t, rfl⟩ := rx
  obtain ⟨t', rfl⟩ := ry
  exact rule i j t t' s _ _ ⟨.bl (g i j), H, I, rfl, q⟩
def CDiv (i j : Int) : Prop := 0 < j ∧ j < 1073741824
def CMul (i j : Int) : Prop := (-(2 ^ 64) < i ∧ i < 2 ^ 64) ∨ (-(2 ^ 64) < j ∧ j < 2 ^ 64)
theorem CMul.ok {i j : Int} (h : CMul i j) : IntMulOk i j := by
  rcases h with ⟨h1, h2⟩ | ⟨h1, h2⟩
  · exact .of_left (intBits_le_64 h1 h2)
  · exact .of_right (intBits_le_64 h1 h2)
theorem op_add : OpR X (binaryOp .Add) (rI0 fun i j => .int (i + j)) := opI0 fun _ _ _ _ _ _ _ q => add_int q
theorem op_mul : OpR X (binaryOp .Mult) (rI CMul fun i j => .int (i * j)) := opI fun _ _ _ _ _ _ _ hc q => mul_int q hc.ok
theorem op_fdiv : OpR X (binaryOp .FloorDiv) (rI CDiv fun i j => .int (i / j)) := opI fun i j _ _ _ _ _ hc q => by
  have h1 : (0 : Int) < j := hc.1
  have h2 : j < 1073741824 := hc.2
  exact floordiv_int (by omega) (by rw [Int.fdiv_eq_ediv_of_nonneg i (by omega)]; exact q) (.inl (PyProof.noPylong_small (by omega)))
theorem op_mod : OpR X (binaryOp .Mod) (rI (fun _ j => 0 < j) fun i j => .int (i % j)) := opI fun i j _ _ _ _ _ hc q => by
  have h1 : (0 : Int) < j := hc
  exact mod_int' (by omega) (by rw [Int.fmod_eq_emod_of_nonneg i (by omega)]; exact q)
end
section
variable {X : Cx} {a b c : Expr} {ta tb tc : TE} {pos : Pos}
theorem op_lt : OpR X (compareOp .Lt) (rI0 fun i j => .bl (decide (i < j))) := opB0 fun _ _ _ _ _ _ _ q => lt_int q
theorem op_le : OpR X (compareOp .LtE) (rI0 fun i j => .bl (decide (i ≤ j))) := opB0 fun _ _ _ _ _ _ _ q => le_int q
theorem op_gt : OpR X (compareOp .Gt) (rI0 fun i j => .bl (decide (j < i))) := opB0 fun _ _ _ _ _ _ _ q => gt_int q
theorem op_ge : OpR X (compareOp .GtE) (rI0 fun i j => .bl (decide (j ≤ i))) := opB0 fun _ _ _ _ _ _ _ q => ge_int q
theorem OpR.or {f : Value → Value → Sem Value} {r r' : R2} (h : OpR X f r) (h' : OpR X f r') : OpR X f (fun x y H Q => r x y H Q ∨ r' x y H Q) := by
  intro pins s σ H x y v u Q I rx ry q
  rcases q with q | q
  · exact h pins s σ H x y v u Q I rx ry q
  · exact h' pins s σ H x y v u Q I rx ry q
theorem nomark (b : Expr) {op : CmpOp} (h : op ≠ .In := by decide) (h2 : op ≠ .NotIn := by decide) : behindInMarks op b = false := by
  have e1 : (op == CmpOp.In) = false := by cases op <;> first | rfl | exact absurd rfl h
  have e2 : (op == CmpOp.NotIn) = false := by cases op <;> first | rfl | exact absurd rfl h2
  cases b <;> simp [behindInMarks, e1, e2]
theorem pe_cmpR {op : CmpOp} {r : R2} (ho : OpR X (compareOp op) r) (ha : PE X a ta) (hb : PE X b tb) (hm : behindInMarks op b = false) : PE X (.Compare a [op] [b] pos) (tOp r ta tb) := by
  intro pins s σ H Q I h
  exact wpAny_Compare1 (binT ha hb I h fun v u s2 x y H2 I2 rx ry q => ho pins s2 σ H2 x y v u Q I2 rx ry q) hm
def tTest (t : TE) : TT := fun σ H Q => t σ H fun x H' => ∃ k, x = .bl k ∧ Q k H'
theorem pt_cmpR {op : CmpOp} {r : R2} (ho : OpR X (compareOp op) r) (ha : PE X a ta) (hb : PE X b tb) (hm : behindInMarks op b = false) : PT X (.Compare a [op] [b] pos) (tTest (tOp r ta tb)) := by
  intro pins s σ H Q I h
  refine wpAny_isTrue_Compare1 (thn (ha pins s σ H _ I h) fun v s1 ⟨x, H1, I1, r1, q1⟩ => thn (hb pins s1 σ H1 _ I1 q1) fun u s2 ⟨y, H2, I2, r2, q2⟩ =>
    thn (ho pins s2 σ H2 x y v u _ I2 r1 r2 q2) fun c s3 ⟨z, H3, I3, r3, k, e, q3⟩ => ?_) hm
  subst e
  cases r3
  exact wpAny_truthy_bool ⟨H3, I3, q3⟩
def tChain (r r' : R2) (ta tb tc : TE) : TE := fun σ H Q => ta σ H fun x H1 => tb σ H1 fun y H2 => r x y H2 fun z H3 => ∃ k, z = .bl k ∧
  (if k = true then tc σ H3 fun w' H4 => r' y w' H4 Q else Q (.bl false) H3)
theorem pe_chain {op op' : CmpOp} {r r' : R2} (ho : OpR X (compareOp op) r) (ho' : OpR X (compareOp op') r') (ha : PE X a ta) (hb : PE X b tb) (hc : PE X c tc)
    (hm : lastMarks [op, op'] [b, c] = false := by with_unfolding_all rfl) : PE X (.Compare a [op, op'] [b, c] pos) (tChain r r' ta tb tc) := by
  intro pins s σ H Q I h
  refine Compare_chain (thn (ha pins s σ H _ I h) fun v s1 ⟨x, H1, I1, r1, q1⟩ => chain_link (thn (hb pins s1 σ H1 _ I1 q1) fun u s2 ⟨y, H2, I2, r2, q2⟩ =>
    thn (ho pins s2 σ H2 x y v u _ I2 r1 r2 q2) fun d s3 ⟨z, H3, I3, r3, k, e, q3⟩ => ?_)) hm
  subst e
  cases r3
  refine wpAny_truthy_bool ?_
  cases k with
  | false => exact ite_ff ⟨.bl false, H3, I3, rfl, q3⟩
  | true => exact ite_tt (chain_last (thn (hc pins s3 σ H3 _ I3 q3) fun w' s4 ⟨z', H4, I4, r4, q4⟩ => ho' pins s4 σ H4 y z' u w' Q I4 r2 r4 q4))
def TruV (K : PySem.W.Frag) (x : V) (H : Hp) (k : Bool) : Prop :=
  match x with
  | .non => k = false
  | .bl b => k = b
  | .int i => k = (i != 0)
  | .str y => y.length ≤ sizeLine ∧ k = ((y.length : Int) != 0)
  | .byt y => y.size ≤ sizeLine ∧ k = ((y.size : Int) != 0)
  | .ref p => (∃ xs, SqL K H p xs ∧ k = !xs.isEmpty) ∨ (∃ xs, SqT K H p xs ∧ k = !xs.isEmpty) ∨ ∃ kvs, H p = some (.dK kvs) ∧ k = !kvs.isEmpty
  | _ => False
theorem isEmpty_kv {κ : Type} {kvs : List (κ × V)} {vs : List (κ × Value)} (r : KV kvs vs) : (!vs.isEmpty) = !kvs.isEmpty := by
  cases r <;> rfl
theorem isEmpty_of {xs : List V} {its : List Value} (r : Vals xs its) : (!its.toArray.isEmpty) = !xs.isEmpty := by
  cases r <;> simp
theorem line63 : (sizeLine : Nat) < 2 ^ 63 := by rw [sizeLine_eq]; decide
theorem tru_ok : TruR X (fun x H Q => ∃ k, TruV X.K x H k ∧ Q k H) := by
  intro pins s σ H x v Q I rx h
  obtain ⟨k, e, q⟩ := h
  have hl := line63
  have hs : sizeLine = 16777216 := sizeLine_eq
  cases x with
  | non =>
    cases rx
    have e' : k = false := e
    subst e'
    exact truthy_none ⟨H, I, q⟩
  | bl b =>
    cases rx
    have e' : k = b := e
    subst e'
    exact wpAny_truthy_bool ⟨H, I, q⟩
  | int i =>
    obtain ⟨t, rfl⟩ := rx
    have e' : k = (i != 0) := e
    subst e'
    exact PySem.P.truthy_int ⟨H, I, q⟩
  | str y =>
    obtain ⟨t, rfl⟩ := rx
    obtain ⟨hy, e'⟩ : y.length ≤ sizeLine ∧ k = ((y.length : Int) != 0) := e
    subst e'
    exact PySem.P.truthy_str (by omega) ⟨H, I.tok _, q⟩
  | byt y =>
    obtain ⟨t, rfl⟩ := rx
    obtain ⟨hy, e'⟩ : y.size ≤ sizeLine ∧ k = ((y.size : Int) != 0) := e
    subst e'
    exact PySem.W.truthy_bytes (by omega) ⟨H, I.tok _, q⟩
  | ref p =>
    cases rx
    have e' : (∃ xs, SqL X.K H p xs ∧ k = !xs.isEmpty) ∨ (∃ xs, SqT X.K H p xs ∧ k = !xs.isEmpty) ∨ ∃ kvs, H p = some (.dK kvs) ∧ k = !kvs.isEmpty := e
    rcases e' with ⟨xs, hx, e'⟩ | ⟨xs, hx, e'⟩ | ⟨kvs, hx, e'⟩
    · subst e'
      obtain ⟨its, r, pl, hz⟩ := I.list hx
      have hlen := r.length
      exact wpAny_truthy_list pl.isList (by simp only [List.size_toArray]; omega) ⟨H, I.tok _, by rw [isEmpty_of r]; exact q⟩
    · subst e'
      obtain ⟨its, r, pl, hz⟩ := I.tuple hx
      have hlen := r.length
      exact truthy_tuple pl (by simp only [List.size_toArray]; omega) ⟨H, I.tok _, by rw [isEmpty_of r]; exact q⟩
    · subst e'
      obtain ⟨hz, hS, vs, r, m⟩ : kvs.length ≤ sizeLine ∧ (p == sysModules) = false ∧ ∃ vs, KV kvs vs ∧ s.heap.DictOf (mixKind X.prog X.w) p vs := I.hok p _ hx
      have hlen : kvs.length = vs.length := Paired.length r
      exact wpAny_truthy_dict hS m (by omega) ⟨H, I.tok _, by rw [isEmpty_kv r]; exact q⟩
  | _ => exact (show False from e).elim
theorem pt_truth (ha : PE X a ta) (he : ∀ whole, isTrue a X.env whole = (do let v ← whole; standAt a.pos; holding [v] (truthy v))) :
    PT X a (fun σ H Q => ta σ H fun x H' => ∃ k, TruV X.K x H' k ∧ Q k H') := by
  intro pins s σ H Q I h
  exact isTrue_plain (thn (ha pins s σ H _ I h) fun v s1 ⟨x, H1, I1, r1, q1⟩ => tru_ok pins s1 σ H1 x v Q I1 r1 q1) (he _)
theorem op_add_str : OpR X (binaryOp .Add) (fun x y H Q => ∃ i j, x = .str i ∧ y = .str j ∧ i.length + j.length ≤ sizeLine ∧ Q (.str (i ++ j)) H) := by
  intro pins s σ H x y v u Q I rx ry h
  obtain ⟨i, j, rfl, rfl, hz, q⟩ := h
  obtain ⟨t, rfl⟩ := rx
  obtain ⟨t', rfl⟩ := ry
  exact add_str (fun t' tk => ⟨.str (i ++ j), H, I.tok _, ⟨_, rfl⟩, q⟩) hz
theorem vals1 {x : V} {us : List Value} (r : Vals [x] us) : ∃ u, us = [u] ∧ RelV x u := by
  cases r with
  | cons r1 r2 => cases r2; exact ⟨_, rfl, r1⟩
theorem vals2 {x y : V} {us : List Value} (r : Vals [x, y] us) : ∃ u w', us = [u, w'] ∧ RelV x u ∧ RelV y w' := by
  cases r with
  | cons r1 r2 =>
    cases r2 with
    | cons r3 r4 => cases r4; exact ⟨_, _, rfl, r1, r3⟩
theorem call_int1 : CallR X (.type "int") (fun xs H Q => (∃ i, xs = [.int i] ∧ Q (.int i) H) ∨ ∃ k, xs = [.bl k] ∧ Q (.int (if k then 1 else 0)) H) := by
  intro pins s σ H xs us Q I r h
  rcases h with ⟨i, rfl, q⟩ | ⟨k, rfl, q⟩
  · obtain ⟨u, rfl, t, rfl⟩ := vals1 r
    exact call_int_int ⟨.int i, H, I, ⟨_, rfl⟩, q⟩
  · obtain ⟨u, rfl, r1⟩ := vals1 r
    cases r1
    exact call_int_bool ⟨.int (if k then 1 else 0), H, I.tok _, ⟨_, rfl⟩, q⟩
end
end L2
namespace L2
open PySem PySem.Spec PyProof.Rows
structure ObjM (h : Heap) (x dx C : Addr) (mA : Str → Option Value) : Prop where
  obj : h.get? x = some (PySem.W.instObj C dx)
  ns : h.Ns1 dx mA
  ne : dx ≠ x
theorem lookIn_ns {h : Heap} {dx : Addr} {mA : Str → Option Value} (n : h.Ns1 dx mA) : ∃ od, h.get? dx = some od ∧ ∀ name, PySem.W.lookIn name od = some (mA name) := by
  obtain ⟨o, es, ep, ho, hd, hk, _, hm⟩ := n
  refine ⟨o, ho, fun name => ?_⟩
  have e := hm name
  unfold nsFind findBy at e
  rw [← Array.find?_toList] at e
  unfold PySem.W.lookIn
  rw [hd]
  dsimp only
  split
  · rename_i y q
    rw [q] at e
    exact congrArg some e
  · rename_i q
    rw [q] at e
    have a : es.toList.any (·.refKey) = false := by
      rw [List.any_eq_false]
      intro y hy
      obtain ⟨z, t, hkey⟩ := hk y (Array.mem_toList_iff.mp hy)
      simp [DictEntry.refKey, hkey]
    have a' : ¬ es.toList.any (·.refKey) = true := by rw [a]; exact Bool.false_ne_true
    rw [if_neg a']
    exact congrArg some e
theorem ObjM.look {h : Heap} {x dx C : Addr} {mA : Str → Option Value} (I : ObjM h x dx C mA) : ∃ od, PySem.W.InstAt h x (PySem.W.instObj C dx) C (some od) ∧ ∀ name, PySem.W.lookIn name od = some (mA name) :=
  let ⟨od, ho, hl⟩ := lookIn_ns I.ns
  ⟨od, ⟨I.obj, rfl, rfl, ho⟩, hl⟩
section
variable {prog : Program} {w : World} {A : Around} {E : Value → Shared → Prop} {s : Shared} {K : PySem.W.Frag} {x dx C f : Addr} {mA : Str → Option Value} {name : Str} {v : Value}
end
section
variable {P : Program} {w : World} {H H' : Hp} {h h' : Heap} {a C dx : Addr} {fs fs' : List (Str × V)}
theorem ins_get (hok : HOk P w H h) (e : H a = some (.ins C dx fs)) : ∃ mA, ObjM h a dx C mA ∧ (∀ f, RelO (fs.lookup f) (mA f)) ∧ PySem.Within mA (fs.map (·.1)) ∧ fs.length ≤ 1000 ∧ H dx = some (.own a) := by
  obtain ⟨d, z, ne, ob, mA, n, r, q⟩ := (show ObjOk P w H h a (.ins C dx fs) from hok a _ e)
  exact ⟨mA, ⟨ob, n, ne⟩, r, q, z, d⟩
end
structure Cls (K : PySem.W.Frag) (C : Addr) : Prop where
  pg : PySem.W.plainGet K C Str.empty = true
  hd : PySem.W.hasDictIn K C = true
  po : PySem.W.plainOver K C = true
  sa : PySem.W.findIn K (.ref C) "__setattr__" = some (some (.builtin "object.__setattr__"))
theorem Cls.get {K : PySem.W.Frag} {C : Addr} (c : Cls K C) (f : Str) : PySem.W.plainGet K C f = true := c.pg
structure Con (K : PySem.W.Frag) (C : Addr) (f : Str) (v : V) (u : Value) : Prop where
  at_ : PySem.W.findIn K (.ref C) f = some (some u)
  rel : RelV v u
  get : PySem.W.specialIn K u "__get__" = some none
  cp : PySem.W.copiedNames.contains f = false
structure Meth (K : PySem.W.Frag) (C : Addr) (m : Str) (f : Addr) : Prop where
  at_ : PySem.W.findIn K (.ref C) m = some (some (.ref f))
  fn : PySem.W.isFn K (.ref f) = true
  kp : PySem.W.keepIn K (.ref f) = true
section
variable {X : Cx} {pins : List (Addr × Obj)} {σ : St} {H : Hp} {s : Shared} {a C dx : Addr} {fs : List (Str × V)} {f : Str} {v : V} {A : Around} {E : Value → Shared → Prop}
theorem Inv.made (I : Inv X pins σ H s) : Inv X pins σ (upd (upd H s.heap.objs.size (.own (s.heap.objs.size + 1))) (s.heap.objs.size + 1) (.ins C s.heap.objs.size []))
    { s with heap := (s.heap.push PySem.W.emptyDict).push (PySem.W.instObj C s.heap.objs.size) } := by
  have e1 : (s.heap.push PySem.W.emptyDict).get? s.heap.objs.size = some PySem.W.emptyDict := Heap.get?_push_size s.heap rfl
  have e2 : ((s.heap.push PySem.W.emptyDict).push (PySem.W.instObj C s.heap.objs.size)).get? (s.heap.objs.size + 1) = some (PySem.W.instObj C s.heap.objs.size) := by
    have := Heap.get?_push_size (s.heap.push PySem.W.emptyDict) (o := PySem.W.instObj C s.heap.objs.size) rfl
    rwa [Heap.size_push] at this
  have e3 : (s.heap.push PySem.W.emptyDict).Ns s.heap.objs.size (fun _ => none) := ⟨PySem.W.emptyDict, #[], _, e1, rfl, (fun e he => absurd he (by simp)), fun _ => rfl⟩
  have I1 := I.laid (a := s.heap.objs.size) (o := .own (s.heap.objs.size + 1)) (h' := s.heap.push PySem.W.emptyDict) (t' := s.toks) (fun b u q => Heap.get?_push_of_some _ q) (Nat.le_refl _) ⟨_, e1⟩
  refine I1.laid (a := s.heap.objs.size + 1) (o := .ins C s.heap.objs.size []) (t' := s.toks) (fun b u q => Heap.get?_push_of_some _ q) (Nat.le_of_eq (Heap.size_push _ _)) ?_
  have ne : s.heap.objs.size ≠ s.heap.objs.size + 1 := Nat.ne_of_lt (Nat.lt_succ_self _)
  refine ⟨by rw [upd_ne ne, upd_same], Nat.zero_le _, ne, e2, fun _ => none, (Heap.Ns1.of_empty e3).at fun o q => Heap.get?_push_of_some _ q, fun _ => True.intro, fun y hy => absurd rfl hy⟩
end
section
variable {X : Cx} {o e value : Expr} {f : Str} {pos pos' tpos : Pos} {ta tv : TE}
end
section
variable {X : Cx} {pins : List (Addr × Obj)} {σ : St} {H : Hp} {s : Shared} {A : Around} {E : Value → Shared → Prop} {Q : Value → Shared → Prop} {c : Value} {b : Bool}
inductive TyOf (K : PySem.W.Frag) (H : Hp) : V → Value → Prop where
  | non : TyOf K H .non (.type "NoneType")
  | bl (x : Bool) : TyOf K H (.bl x) (.type "bool")
  | int (i : Int) : TyOf K H (.int i) (.type "int")
  | str (x : Str) : TyOf K H (.str x) (.type "str")
  | flt (x : UInt64) : TyOf K H (.flt x) (.type "float")
  | lst {a : Addr} {xs : List V} (e : H a = some (.lst xs)) : TyOf K H (.ref a) (.type "list")
  | frz {a : Addr} {o : Obj} {xs : List V} (e : H a = some (.frz o (.lst xs))) : TyOf K H (.ref a) (.type "list")
  | tup {a : Addr} {xs : List V} (e : H a = some (.tup xs)) : TyOf K H (.ref a) (.type "tuple")
  | dK {a : Addr} {kvs : List (Key × V)} (e : H a = some (.dK kvs)) : TyOf K H (.ref a) (.type "dict")
  | dT {a : Addr} {kvs : List (List Key × V)} (e : H a = some (.dT kvs)) : TyOf K H (.ref a) (.type "dict")
  | ins {a C dx : Addr} {fs : List (Str × V)} (e : H a = some (.ins C dx fs)) (cl : Cls K C) (ha : PySem.W.findIn K (.ref C) "__class__" = some (some (.builtin "object.__class__")))
      (hn : PySem.W.specialIn K (.builtin "object.__class__") "__get__" = some (some (.builtin "getset_descriptor.__get__"))) (htk : PySem.W.takesIn K (.builtin "object.__class__") = some true)
      (hm : PySem.W.mroIn K C (.type "object") = some true) : TyOf K H (.ref a) (.ref C)
theorem isinst_ok {x : V} {u t : Value} (I : Inv X pins σ H s) (rx : RelV x u) (ty : TyOf X.K H x t) (e : PySem.W.kitOne X.K t c = some b) (h : ∀ tk, Q (.bool b) { s with toks := tk }) :
    wpAny (model X.prog X.w) A (call (.builtin "isinstance") [u, c]) Q E s := by
  cases ty with
  | non => cases (show u = Value.none from rx); exact PySem.W.kia_one PySem.W.kitx_none I.kIn True.intro e (fun z => nomatch z) h
  | bl y => cases (show u = Value.bool y from rx); exact PySem.W.kia_one PySem.W.kitx_bool I.kIn True.intro e (fun z => nomatch z) h
  | int i => obtain ⟨t, q⟩ := (show ∃ t, u = Value.int i t from rx); cases q; exact PySem.W.kia_one PySem.W.kitx_int I.kIn True.intro e (fun z => nomatch z) h
  | str y => obtain ⟨t, q⟩ := (show ∃ t, u = Value.str y t from rx); cases q; exact PySem.W.kia_one PySem.W.kitx_str I.kIn True.intro e (fun z => nomatch z) h
  | flt y => obtain ⟨t, q⟩ := (show ∃ t, u = Value.float y t from rx); cases q; exact PySem.W.kia_one PySem.W.kitx_float I.kIn True.intro e (fun z => nomatch z) h
  | @lst a xs ea =>
    cases (show u = Value.ref a from rx)
    obtain ⟨_, _, n, _, h1⟩ := (show ObjOk X.prog X.w H s.heap a (.lst xs) from I.hok a _ ea)
    exact PySem.W.kia_one PySem.W.kitx_list I.kIn ⟨_, h1, rfl⟩ e (fun z => nomatch z) h
  | @frz a ob xs ea =>
    cases (show u = Value.ref a from rx)
    obtain ⟨_, _, _, n, _, h1⟩ := (show ObjOk X.prog X.w H s.heap a (.frz ob (.lst xs)) from I.hok a _ ea)
    exact PySem.W.kia_one PySem.W.kitx_list I.kIn ⟨_, h1, rfl⟩ e (fun z => nomatch z) h
  | @tup a xs ea =>
    cases (show u = Value.ref a from rx)
    obtain ⟨_, _, _, p⟩ := (show ObjOk X.prog X.w H s.heap a (.tup xs) from I.hok a _ ea)
    obtain ⟨o, h1, h2, _⟩ := p
    exact PySem.W.kia_one PySem.W.kitx_tuple I.kIn ⟨o, h1, h2⟩ e (fun z => nomatch z) h
  | @dK a kvs ea =>
    cases (show u = Value.ref a from rx)
    obtain ⟨_, _, vs, _, p⟩ := (show ObjOk X.prog X.w H s.heap a (.dK kvs) from I.hok a _ ea)
    obtain ⟨o, es, ep, h1, h2, _⟩ := p
    exact PySem.W.kia_one PySem.W.kitx_dict I.kIn ⟨o, h1, h2.1⟩ e (fun z => nomatch z) h
  | @dT a kvs ea =>
    cases (show u = Value.ref a from rx)
    obtain ⟨_, _, xs, _, o, es, ep, h1, h2, _⟩ := (show ObjOk X.prog X.w H s.heap a (.dT kvs) from I.hok a _ ea)
    exact PySem.W.kia_one PySem.W.kitx_dict I.kIn ⟨o, h1, h2.1⟩ e (fun z => nomatch z) h
  | @ins a C dx fs ea cl ha hn htk hm =>
    cases (show u = Value.ref a from rx)
    obtain ⟨mA, O, _⟩ := ins_get I.hok ea
    obtain ⟨od, J, _⟩ := O.look
    exact PySem.W.kia_one (PySem.W.kitx_own (cl.get _) cl.hd ha hn htk hm) I.kIn J e (fun z => nomatch z) h
end
end L2
namespace L2
open PySem PySem.Spec PyProof.Rows
structure Room (k : Nat) (A : Around) : Prop where
  hd : A.handled = none
  dp : A.depth + 3 * k + 5 < recursionLimit
  un : A.units + 16 * k + 200 < cLine
theorem Room.mono {j k : Nat} {A : Around} (r : Room k A) (h : j ≤ k) : Room j A := ⟨r.hd, by have := r.dp; omega, by have := r.un; omega⟩
theorem Room.deeper {k : Nat} {A : Around} (r : Room (k + 1) A) (env : Env) : Room k (A.deeper env) :=
  ⟨r.hd, by have := r.dp; show A.depth + 1 + 3 * k + 5 < _; omega, by have := r.un; show A.units + 3 + 16 * k + 200 < _; omega⟩
theorem Room.in1 {k : Nat} {A : Around} (r : Room (k + 1) A) : Room k A.in1 :=
  ⟨r.hd, by have := r.dp; show A.depth + 3 * k + 5 < _; omega, by have := r.un; show A.units + 1 + 16 * k + 200 < _; omega⟩
theorem Room.depth {k : Nat} {A : Around} (r : Room k A) : A.depth < recursionLimit := by have := r.dp; omega
theorem Room.units {k : Nat} {A : Around} (r : Room k A) : A.units + 64 < cLine := by have := r.un; omega
def tNil : TA := fun _ H Q => Q [] H
def tCons (ta : TE) (tr : TA) : TA := fun σ H Q => ta σ H fun x H1 => tr σ H1 fun xs H2 => Q (x :: xs) H2
section
variable {X : Cx} {e : Expr} {es : List Expr} {te : TE} {t : TA} {pos : Pos}
theorem pa_nil : PA X [] tNil := fun _ _ _ _ H Q I h => Calls.spliced_nil ⟨[], H, I, .nil, h⟩
theorem pa_cons (ha : PE X e te) (hr : PA X es t) (hs : starEach (e :: es) X.env = (false, eval e X.env) :: starEach es X.env := by rfl) : PA X (e :: es) (tCons te t) := by
  intro pos pins s σ H Q I h
  rw [hs]
  show wpAny _ _ (spliced ((false, eval e X.env) :: backTo pos (starEach es X.env))) _ _ s
  refine Calls.spliced_cons (thn (ha pins s σ H _ I h) fun u s1 ⟨x, H1, I1, r1, q1⟩ => ?_)
  exact thn (hr pos pins s1 σ H1 _ I1 q1) fun us s2 ⟨xs, H2, I2, r2, q2⟩ => ⟨x :: xs, H2, I2, .cons r1 r2, q2⟩
def tTup (t : TA) : TE := fun σ H Q => t σ H fun xs H1 => xs.length ≤ sizeLine ∧ ∀ p, H1 p = none → Q (.ref p) (upd H1 p (.tup xs))
def tLst (t : TA) : TE := fun σ H Q => t σ H fun xs H1 => xs.length ≤ sizeLine ∧ ∀ p, H1 p = none → Q (.ref p) (upd H1 p (.lst xs))
theorem pe_tup {x1} (h : PA X es t) : PE X (.Tuple es x1 pos) (tTup t) := by
  intro pins s σ H Q I hq
  refine wpAny_Tuple_spliced (thn (h pos pins s σ H _ I hq) fun us s1 ⟨xs, H1, I1, r, z, q⟩ => ⟨by rw [← r.length]; exact z, ?_⟩)
  have hf : H1 s1.heap.objs.size = none := I1.hok.fresh (Nat.le_refl _)
  refine ⟨.ref s1.heap.objs.size, upd H1 s1.heap.objs.size (.tup xs), I1.laid (t' := s1.toks) (fun b u e => Heap.get?_push_of_some _ e) (Nat.le_refl _) ?_, rfl, q _ hf⟩
  exact ⟨z, us, r, ⟨_, Heap.get?_push_size _ rfl, rfl, _, rfl⟩⟩
theorem pe_lst (h : PA X es t) : PE X (.List es pos) (tLst t) := by
  intro pins s σ H Q I hq
  refine wpAny_List_spliced (thn (h pos pins s σ H _ I hq) fun us s1 ⟨xs, H1, I1, r, z, q⟩ => ⟨by rw [← r.length]; exact z, ?_⟩)
  have hf : H1 s1.heap.objs.size = none := I1.hok.fresh (Nat.le_refl _)
  refine ⟨.ref s1.heap.objs.size, upd H1 s1.heap.objs.size (.lst xs), I1.laid (t' := s1.toks) (fun b u e => Heap.get?_push_of_some _ e) (Nat.le_refl _) ?_, rfl, q _ hf⟩
  exact ⟨z, us, 0, r, Heap.get?_push_size _ rfl⟩
end
abbrev Sp := List V → Hp → VK → XK → Prop
abbrev CXT := List Env → Hp → Shared → XK → Value → Shared → Prop
structure Env0 (P : Program) (w : World) (K : PySem.W.Frag) (mg : Str → Option Value) (base : Heap) (A : Around) (outer : List Env) (s : Shared) (H : Hp) : Prop where
  frames : A.frames = some outer
  mod : Mod K mg base
  bs : ∀ b o, base.get? b = some o → s.heap.get? b = some o ∧ H b = none
  bsz : base.objs.size ≤ s.heap.objs.size
  funs : s.heap.FunFrames base outer
  frf : ∀ b ∈ frs outer, H b = none
  hok : HOk P w H s.heap
  bare : AllBare s.gens
def CE (outer : List Env) (P : Program) (w : World) (H : Hp) (s : Shared) (Q : VK) (u : Value) (s' : Shared) : Prop :=
  ∃ v H', s'.os = s.os ∧ AllBare s'.gens ∧ Un (frs outer) [] H H' s.heap s'.heap ∧ HOk P w H' s'.heap ∧ RelV v u ∧ Q v H'
def CR (CX : CXT) (outer : List Env) (P : Program) (w : World) (H : Hp) (s : Shared) (Q : VK) (E : XK) (r : Result) (s' : Shared) : Prop :=
  match r with
  | .ok (.ret u) => CE outer P w H s Q u s'
  | .ok _ => False
  | .error e => CX outer H s E e s'
structure FnOk (P : Program) (w : World) (K : PySem.W.Frag) (mg : Str → Option Value) (base : Heap) (CX : CXT) (k : Nat) (f : Addr) (fd : FuncData) (ps : List Str) (sp : Sp) : Prop where
  len : ∀ vs H Q E, sp vs H Q E → vs.length = ps.length
  run : ∀ (A : Around) (outer : List Env) (s : Shared) (H : Hp) (args : Args) (us : List Value) (vs : List V) (Q : VK) (E : XK), Room k A → Env0 P w K mg base A outer s H → BindsTo s fd args (ps.zip us) → Vals vs us → sp vs H Q E →
    codeAny (model P w) A (.call (.ref f) args) (CR CX outer P w H s Q E) s
theorem FnOk.mono {P : Program} {w : World} {K : PySem.W.Frag} {mg : Str → Option Value} {base : Heap} {CX : CXT} {j k : Nat} {f : Addr} {fd : FuncData} {ps : List Str} {sp : Sp} (F : FnOk P w K mg base CX j f fd ps sp) (h : j ≤ k) :
    FnOk P w K mg base CX k f fd ps sp := ⟨F.len, fun A outer s H args us vs Q E hr => F.run A outer s H args us vs Q E (hr.mono h)⟩
theorem FnOk.imp {P : Program} {w : World} {K : PySem.W.Frag} {mg : Str → Option Value} {base : Heap} {CX : CXT} {k : Nat} {f : Addr} {fd : FuncData} {ps : List Str} {sp sp' : Sp} (F : FnOk P w K mg base CX k f fd ps sp)
    (h : ∀ vs H Q E, sp' vs H Q E → sp vs H Q E) : FnOk P w K mg base CX k f fd ps sp' :=
  ⟨fun vs H Q E q => F.len vs H Q E (h _ _ _ _ q), fun A outer s H args us vs Q E hr he hb hv hs => F.run A outer s H args us vs Q E hr he hb hv (h _ _ _ _ hs)⟩
theorem Env0.in1 {P : Program} {w : World} {K : PySem.W.Frag} {mg : Str → Option Value} {base : Heap} {A : Around} {outer : List Env} {s : Shared} {H : Hp} (e : Env0 P w K mg base A outer s H) :
    Env0 P w K mg base A.in1 outer s H := ⟨e.frames, e.mod, e.bs, e.bsz, e.funs, e.frf, e.hok, e.bare⟩
section
variable {X : Cx} {pins : List (Addr × Obj)} {σ : St} {H : Hp} {s s' : Shared}
theorem Inv.env0 (I : Inv X pins σ H s) : Env0 X.prog X.w X.K X.mg X.base X.A X.stack s H :=
  ⟨I.ok.frames, I.ok.mod, I.bs, Nat.le_trans I.ok.bsz I.sz, I.stack, I.stkFree, I.hok, I.bare⟩
theorem Inv.after {Q : VK} {u : Value} (I : Inv X pins σ H s) (h : CE X.stack X.prog X.w H s Q u s') : EP X pins σ Q u s' := by
  obtain ⟨v, H', os, bare, un, hok, r, q⟩ := h
  obtain ⟨hh, g, d, t, os'⟩ := s'
  obtain rfl : os' = s.os := os
  exact ⟨v, H', I.call (h' := hh) (g' := g) (d' := d) (t' := t) (ch := []) un hok bare (fun b z => absurd z (by simp)), r, q⟩
end
def tCall (sp : Sp) (dvs : List V) (E : XK) (t : TA) : TE := fun σ H Q => t σ H fun vs H1 => sp (vs ++ dvs) H1 Q E
def Binds (K : PySem.W.Frag) (fd : FuncData) (ps : List Str) (ds : List Value) : Prop :=
  ∀ (s : Shared) (us : List Value), K.In s.heap → (us ++ ds).length = ps.length → BindsTo s fd ⟨us, []⟩ (ps.zip (us ++ ds))
theorem Binds.all {K : PySem.W.Frag} {fd : FuncData} {ps : List Str} (h : ∀ us : List Value, us.length = ps.length → bindArgs fd ⟨us, []⟩ = pure (ps.zip us)) : Binds K fd ps [] := fun s us _ hl => by
  rw [List.append_nil] at hl ⊢
  exact .of_eq (h us hl)
def Passes (CX : CXT) (X : Cx) (E : XK) : Prop := ∀ (pins : List (Addr × Obj)) (σ : St) (H : Hp) (s : Shared) (e : Value) (s' : Shared), Inv X pins σ H s → CX X.stack H s E e s' → X.xe e s'
section
variable {X : Cx} {CX : CXT} {k : Nat} {f C : Addr} {fd : FuncData} {ps : List Str} {sp : Sp} {dvs : List V} {ds : List Value} {E : XK} {x m : Str} {p pos apos : Pos} {e o : Expr} {es : List Expr} {ta : TE} {t : TA}
theorem run_fn {pins : List (Addr × Obj)} {σ : St} {H : Hp} {s : Shared} {Q : VK} {us : List Value} {vs : List V} (F : FnOk X.prog X.w X.K X.mg X.base CX k f fd ps sp) (hr : Room k X.A) (hb : Binds X.K fd ps ds) (hd : Vals dvs ds) (hx : Passes CX X E)
    (I : Inv X pins σ H s) (r : Vals vs us) (h : sp (vs ++ dvs) H Q E) : wpAny (model X.prog X.w) X.A (call (.ref f) us) (EP X pins σ Q) X.xe s := by
  have r2 : Vals (vs ++ dvs) (us ++ ds) := r.append hd
  have hl : (us ++ ds).length = ps.length := by rw [← r2.length]; exact F.len _ _ _ _ h
  refine wpAny_call (codeAny_mono (F.run X.A X.stack s H ⟨us, []⟩ (us ++ ds) (vs ++ dvs) Q E hr I.env0 (hb s us I.kIn hl) r2 h) fun r s' hq => ?_)
  cases r with
  | error e => exact hx pins σ H s e s' I hq
  | ok fl =>
    cases fl with
    | ret u => exact I.after hq
    | next => exact False.elim hq
    | brk => exact False.elim hq
    | cont => exact False.elim hq
theorem pe_call (F : FnOk X.prog X.w X.K X.mg X.base CX k f fd ps sp) (hr : Room k X.A) (hg : Gl X x) (hm : X.mg x = some (.ref f)) (hk : PySem.W.keepIn X.K (.ref f) = true) (hb : Binds X.K fd ps ds) (hd : Vals dvs ds) (hx : Passes CX X E)
    (ha : PA X (e :: es) t) (hdb : (x == ("__debug__" : Str)) = false := by decide) (he : starEach (e :: es) X.env = (false, eval e X.env) :: starEach es X.env := by rfl) (hpl : (backTo pos (starEach es X.env)).any (·.1) = false := by rfl) :
    PE X (.Call (.Name x p) (e :: es) [] pos) (tCall sp dvs E t) := by
  intro pins s σ H Q I h
  refine wpAny_Call_Name_kw (ld_glob I hg hm ?_ hdb)
  refine PySem.W.callWith_K (h₀ := X.base) I.ok.mod.kin hk (thn (ha pos pins s σ H _ I h) fun us s1 ⟨vs, H1, I1, r, q⟩ => ⟨I1.kIn, ?_⟩) he hpl
  exact run_fn F hr hb hd hx I1 r q
structure Mk (K : PySem.W.Frag) (C f : Addr) : Prop where
  makes : PySem.W.makesIn K C = true
  init : PySem.W.findIn K (.ref C) "__init__" = some (some (.ref f))
  fn : PySem.W.isFn K (.ref f) = true
  kp : PySem.W.keepIn K (.ref C) = true
end
section
variable {X : Cx} {CX : CXT} {k : Nat} {f C : Addr} {fd : FuncData} {ps ks : List Str} {sp : Sp} {E : XK} {x m : Str} {p pos apos kpos : Pos} {e o : Expr} {es : List Expr} {kws : List Keyword} {te ta : TE} {t tk : TA} {nm : Option Str}
structure KBinds (K : PySem.W.Frag) (fd : FuncData) (ps ks : List Str) (g : List Value → List Value → List Value) (gV : List V → List V → List V) : Prop where
  to : ∀ (s : Shared) (us ws : List Value), K.In s.heap → (g us ws).length = ps.length → BindsTo s fd ⟨us, ks.zip ws⟩ (ps.zip (g us ws))
  rel : ∀ {vs : List V} {us : List Value} {zs : List V} {ws : List Value}, Vals vs us → Vals zs ws → Vals (gV vs zs) (g us ws)
variable {g : List Value → List Value → List Value} {gV : List V → List V → List V}
end
structure FnScope (N P : List Str) (sc : Scope) : Prop where
  kind : sc.kind = .function
  co : sc.isCoroutine = false
  gen : sc.isGenerator = false
  nd : N.Nodup
  pre : N.take P.length = P
  par : ∀ x ∈ P, sc.names.lookup x = some .local ∨ sc.names.lookup x = some .cell
  nofree : ∀ y ∈ sc.names, y.2 ≠ .free
theorem bindL_out {kindOf : Str → Option NameKind} {x : Str} : ∀ {binds : List (Str × Value)} {m : Str → Option Value}, (∀ v, (x, v) ∉ binds) → bindL kindOf binds m x = m x
  | [], _, _ => rfl
  | (n, v) :: r, m, h => by
    unfold bindL
    rw [bindL_out fun w hw => h w (List.mem_cons_of_mem _ hw)]
    split
    · have : x ≠ n := by rintro rfl; exact h v List.mem_cons_self
      simp [this]
    · rfl
theorem bindC_out {kindOf : Str → Option NameKind} {x : Str} : ∀ {binds : List (Str × Value)} {m : Str → Option Value}, (∀ v, (x, v) ∉ binds) → bindC kindOf binds m x = m x
  | [], _, _ => rfl
  | (n, v) :: r, m, h => by
    unfold bindC
    rw [bindC_out fun w hw => h w (List.mem_cons_of_mem _ hw)]
    split
    · rfl
    · have : x ≠ n := by rintro rfl; exact h v List.mem_cons_self
      simp [this]
theorem bindL_get {kindOf : Str → Option NameKind} {x : Str} {v : Value} : ∀ {P : List Str} {vs : List Value} {i : Nat} {m : Str → Option Value}, P.Nodup → P[i]? = some x → vs[i]? = some v → kindOf x = some .local →
    bindL kindOf (P.zip vs) m x = some v
  | [], _, _, _, _, h, _, _ => by simp at h
  | _ :: _, [], _, _, _, _, h, _ => by simp at h
  | p :: P, w :: vs, 0, m, nd, h1, h2, hk => by
    simp at h1 h2; subst h1; subst h2
    show bindL kindOf ((p, w) :: P.zip vs) m p = _
    unfold bindL
    rw [bindL_out fun v hv => (List.nodup_cons.mp nd).1 (List.of_mem_zip hv).1, if_pos hk]
    simp
  | p :: P, w :: vs, i + 1, m, nd, h1, h2, hk => by
    show bindL kindOf ((p, w) :: P.zip vs) m x = _
    unfold bindL
    exact bindL_get (i := i) (List.nodup_cons.mp nd).2 (by simpa using h1) (by simpa using h2) hk
theorem bindC_get {kindOf : Str → Option NameKind} {x : Str} {v : Value} : ∀ {P : List Str} {vs : List Value} {i : Nat} {m : Str → Option Value}, P.Nodup → P[i]? = some x → vs[i]? = some v → kindOf x ≠ some .local →
    bindC kindOf (P.zip vs) m x = some v
  | [], _, _, _, _, h, _, _ => by simp at h
  | _ :: _, [], _, _, _, _, h, _ => by simp at h
  | p :: P, w :: vs, 0, m, nd, h1, h2, hk => by
    simp at h1 h2; subst h1; subst h2
    show bindC kindOf ((p, w) :: P.zip vs) m p = _
    unfold bindC
    rw [bindC_out fun v hv => (List.nodup_cons.mp nd).1 (List.of_mem_zip hv).1, if_neg hk]
    simp
  | p :: P, w :: vs, i + 1, m, nd, h1, h2, hk => by
    show bindC kindOf ((p, w) :: P.zip vs) m x = _
    unfold bindC
    exact bindC_get (i := i) (List.nodup_cons.mp nd).2 (by simpa using h1) (by simpa using h2) hk
def start (N : List Str) (vs : List V) : St := vs.map some ++ List.replicate (N.length - vs.length) none
def cxOf (CX : CXT) (P : Program) (w : World) (K : PySem.W.Frag) (mg : Str → Option Value) (base : Heap) (N : List Str) (qual : Str) (scope : Scope) (f : Addr) (cd : Value) (A : Around) (outer : List Env) (s : Shared) (H : Hp) (E : XK) : Cx where
  prog := P
  w := w
  K := K
  mg := mg
  base := base
  A := A.deeper (envOfC qual scope s.heap.objs.size f cd)
  N := N
  s₀ := s
  H₀ := H
  env := envOfC qual scope s.heap.objs.size f cd
  outer := outer
  stack := envOfC qual scope s.heap.objs.size f cd :: outer
  ex := []
  calm := true
  fn := fun _ => true
  pn := []
  xe := fun e s' => wpAny (model P w) (A.deeper (envOfC qual scope s.heap.objs.size f cd)) (leaving (envOfC qual scope s.heap.objs.size f cd) e) (fun _ s'' => CX outer H s E e s'') (fun e' s'' => CX outer H s E e' s'') s'
theorem cell_has {sc : Scope} {n : Nat} {x : Str} (h : sc.names.lookup x = some .cell) : ∃ c, (cellsFrom n sc.names []).lookup x = some c := by
  have q := PySem.W.cellsFrom_some sc.names n [] (.inl h)
  exact Option.isSome_iff_exists.mp q
theorem inv_start {CX : CXT} {P : Program} {w : World} {K : PySem.W.Frag} {mg : Str → Option Value} {base : Heap} {N ps : List Str} {qual : Str} {scope : Scope} {f : Addr} {cd : Value} {A : Around} {outer : List Env} {s s1 : Shared} {H : Hp} {E : XK} {us : List Value} {vs : List V}
    (S : FnScope N ps scope) (hd : A.handled = none) (e0 : Env0 P w K mg base A outer s H) (hl : vs.length = ps.length) (r : Vals vs us)
    (x : InCallC s s.heap.objs.size (bindL (envOfC qual scope s.heap.objs.size f cd).kindOf (ps.zip us) fun _ => none) (cellsFrom (s.heap.objs.size + 1) scope.names []) (bindC (envOfC qual scope s.heap.objs.size f cd).kindOf (ps.zip us) fun _ => none) s1) :
    Inv (cxOf CX P w K mg base N qual scope f cd A outer s H E) [] (start N vs) H s1 := by
  have hpl : ps.length ≤ N.length := by have := congrArg List.length S.pre; rw [List.length_take] at this; omega
  obtain ⟨h1, tk, rfl, hk⟩ := x.done
  have noA : ∀ b : Addr, b ∉ (cxOf CX P w K mg base N qual scope f cd A outer s H E).ex := fun b z => absurd (show b ∈ ([] : List Addr) from z) (by simp)
  refine ⟨⟨e0.mod, S.kind, rfl, rfl, Nat.le_refl _, fun y z c h1 h2 => ?_, fun y hy => ?_, fun y c _ h => ?_, fun _ => hd, Around.frames_deeper e0.frames, .inr ⟨rfl, rfl⟩, fun b z => absurd z (noA b), e0.bs, e0.bsz, fun b _ _ => noA b, fun b z => absurd z (noA b), e0.funs, e0.frf⟩,
    rfl, e0.bare, Un.kept hk, ⟨_, x.toInCall.ns, fun i y v h1 h2 h3 => ?_⟩, fun y c h => ⟨_, x.cell y c h⟩, e0.hok.fresh (Nat.le_refl _), fun y c h => ?_, fun p hp => absurd (show p ∈ ([] : List (Addr × Obj)) from hp) (by simp), e0.hok.kept hk, ?_⟩
  · exact name_of_addr x.apart (PySem.mem_of_lookup h1) (PySem.mem_of_lookup h2)
  · have hy : scope.names.lookup y = some .cell ∨ scope.names.lookup y = some .free := hy
    rcases hy with hy | hy
    · exact cell_has hy
    · exact absurd rfl (S.nofree _ (PySem.mem_of_lookup hy))
  · exact Nat.le_of_lt (x.above y c (PySem.mem_of_lookup h))
  · have hi : i < vs.length := by
      unfold start at h2
      by_cases hi : i < vs.length
      · exact hi
      · rw [List.getElem?_append_right (by simpa using hi)] at h2
        rw [List.getElem?_replicate] at h2
        split at h2 <;> cases h2
    have ha : vs[i]? = some v := by
      unfold start at h2
      rw [List.getElem?_append_left (by simpa using hi), List.getElem?_map] at h2
      cases e : vs[i]? with
      | none => rw [e] at h2; cases h2
      | some a => rw [e] at h2; cases h2; rfl
    obtain ⟨u, hu, rv⟩ := r.get ha
    have hp : ps[i]? = some y := by
      rw [← S.pre, List.getElem?_take_of_lt (by omega)]; exact h1
    have ndP : ps.Nodup := by rw [← S.pre]; exact S.nd.sublist (List.take_sublist _ _)
    refine ⟨u, rv, ?_⟩
    rcases S.par y (List.mem_of_getElem? hp) with k | k
    · exact .inl ⟨k, bindL_get ndP hp hu k⟩
    · obtain ⟨c, e⟩ := cell_has (n := s.heap.objs.size + 1) k
      refine .inr ⟨.inl k, c, e, ?_⟩
      have q := x.cell y c e
      rw [bindC_get ndP hp hu (by show scope.names.lookup y ≠ _; rw [k]; decide)] at q
      exact q
  · exact e0.hok.fresh (Nat.le_of_lt (x.above y c (PySem.mem_of_lookup h)))
  · unfold start
    show _ = N.length
    rw [List.length_append, List.length_map, List.length_replicate]
    omega
theorem fn_of {CX : CXT} {P : Program} {w : World} {K : PySem.W.Frag} {mg : Str → Option Value} {base : Heap} {k : Nat} {f : Addr} {name qual : Str} {params : Arguments} {body : List Stmt} {scope : Scope} {dV kV doc pm cdv ct oc : Value} {an od : Option Addr}
    {osl : Array (Option Value)} {N ps : List Str} {sp : Sp} (lk : K.lookup f = some ⟨oc, od, .func (PySem.W.fnOf name qual params body scope dV kV doc pm an cdv ct), osl⟩) (hcd : PySem.W.codeIn K cdv qual = true) (S : FnScope N ps scope)
    (len : ∀ vs H Q E, sp vs H Q E → vs.length = ps.length)
    (hbody : ∀ (A : Around) (outer : List Env) (s : Shared) (H : Hp) (vs : List V) (Q : VK) (E : XK), Room k (A.deeper (envOfC qual scope s.heap.objs.size f cdv)) → sp vs H Q E →
      ∃ t, PSs (cxOf CX P w K mg base N qual scope f cdv A outer s H E) body t ∧ t { nx := fun _ H' => Q .non H', rt := Q } (start N vs) H) :
    FnOk P w K mg base CX (k + 1) f (PySem.W.fnOf name qual params body scope dV kV doc pm an cdv ct) ps sp := by
  refine ⟨len, fun A outer s H args us vs Q E hr e0 hb r hsp => ?_⟩
  have hl := len _ _ _ _ hsp
  have KX : K.In s.heap := e0.mod.kin.keeps fun b o e => (e0.bs b o e).1
  have lim : s.heap.NoLimit := e0.mod.nolimit.keeps fun b o e => (e0.bs b o e).1
  have hkind : ∀ y ∈ ps.zip us, scope.names.lookup y.1 = some .local ∨ (scope.names.lookup y.1 = some .cell ∧ ((cellsFrom (s.heap.objs.size + 1) scope.names []).lookup y.1).isSome = true) := fun ⟨n, v⟩ hy => by
    rcases S.par n (List.of_mem_zip hy).1 with q | q
    · exact .inl q
    · exact .inr ⟨q, PySem.W.cellsFrom_some _ _ _ (.inl q)⟩
  refine codeAny_call_function hr.depth (KX _ _ lk) rfl S.co S.gen rfl (PySem.W.codeRec_of KX hcd) (hb _ _ _ _ ?_)
  refine wpAny_newFunctionEnv_cells S.kind hkind fun env he s1 x => ?_
  subst he
  refine ⟨lim.keeps x.toInCall.keep, codeAny_func ?_⟩
  obtain ⟨t, ht, hq⟩ := hbody A outer s H vs Q E (hr.deeper _) hsp
  have I : Inv (cxOf CX P w K mg base N qual scope f cdv A outer s H E) [] (start N vs) H s1 := inv_start S hr.hd e0 hl r x
  refine wpAny_mono (ht [] s1 (start N vs) H _ I hq) (fun fl s' hs => ?_) fun e s' hs => hs
  have fin : ∀ {σ' : St} {H' : Hp} {v : V} {u : Value}, Inv (cxOf CX P w K mg base N qual scope f cdv A outer s H E) [] σ' H' s' → RelV v u → Q v H' → CE outer P w H s Q u s' :=
    fun {σ' H' v u} J rv q => ⟨v, H', J.os, J.bare, J.base, J.hok, rv, q⟩
  cases fl with
  | ret u =>
    obtain ⟨v, σ', H', J, rv, q⟩ := hs
    exact fin J rv q
  | next =>
    obtain ⟨σ', H', J, q⟩ := hs
    exact fin (v := V.non) (u := Value.none) J rfl q
  | brk =>
    obtain ⟨_, _, _, q⟩ := hs
    exact False.elim q
  | cont =>
    obtain ⟨_, _, _, q⟩ := hs
    exact False.elim q
end L2
namespace L2
open PySem PySem.Spec PyProof.Rows
section
variable {X : Cx} {x : Str} {p pos : Pos} {e : Expr} {es : List Expr} {t : TA} {id T : String} {r : List V → Hp → VK → Prop}
def tCB (r : List V → Hp → VK → Prop) (t : TA) : TE := fun σ H Q => t σ H fun vs H1 => r vs H1 Q
theorem pe_callB (hc : CallR X (.builtin id) r) (hg : Gl X x) (hm : X.mg x = none) (hv : bootBuiltins x = some (.builtin id)) (ha : PA X (e :: es) t) (hn : x ≠ "__name__" := by decide) (hdb : (x == ("__debug__" : Str)) = false := by decide)
    (he : starEach (e :: es) X.env = (false, eval e X.env) :: starEach es X.env := by rfl) (hpl : (backTo pos (starEach es X.env)).any (·.1) = false := by rfl) : PE X (.Call (.Name x p) (e :: es) [] pos) (tCB r t) := by
  intro pins s σ H Q I h
  refine wpAny_Call_Name_kw (ld_blt I hg hm hv ?_ hn hdb)
  exact PyProof.Rows.callWith_builtin1 (thn (ha pos pins s σ H _ I h) fun us s1 ⟨vs, H1, I1, r1, q1⟩ => hc pins s1 σ H1 vs us Q I1 r1 q1) he hpl
theorem pe_callTy (hc : CallR X (.type T) r) (hg : Gl X x) (hm : X.mg x = none) (hv : bootBuiltins x = some (.type T)) (ha : PA X (e :: es) t) (hn : x ≠ "__name__" := by decide) (hdb : (x == ("__debug__" : Str)) = false := by decide)
    (he : starEach (e :: es) X.env = (false, eval e X.env) :: starEach es X.env := by rfl) (hpl : (backTo pos (starEach es X.env)).any (·.1) = false := by rfl) : PE X (.Call (.Name x p) (e :: es) [] pos) (tCB r t) := by
  intro pins s σ H Q I h
  refine wpAny_Call_Name_kw (ld_blt I hg hm hv ?_ hn hdb)
  exact PyProof.Rows.callWith_type1 (thn (ha pos pins s σ H _ I h) fun us s1 ⟨vs, H1, I1, r1, q1⟩ => hc pins s1 σ H1 vs us Q I1 r1 q1) he hpl
end
end L2
namespace HT
open PySem PyProof.Rows
section
open PySem.SeqAt
open PySem.AutoSeq1 (wpAny_loadPart')
open PySem.MeetsSeq PySem.MeetsSeq2 PySem.MeetsSeq3
end
section
variable {prog : Program} {w : World} {A : Around} {E : Value → Shared → Prop} {s : Shared}
theorem cat_tup {t b : Addr} {vs ws : List Value} {Q : Value → Shared → Prop} (ht : IsTup s.heap t vs.toArray) (hb : IsTup s.heap b ws.toArray) (hv : vs ≠ [])
    (h1 : ws = [] → Q (.ref t) s) (h2 : ws ≠ [] → Q (.ref s.heap.objs.size) { s with heap := s.heap.push { cls := .type "tuple", data := .seq (vs ++ ws).toArray } })
    (hsz : vs.length + ws.length ≤ sizeLine) : wpAny (model prog w) A (binaryOp .Add (.ref t) (.ref b)) Q E s := by
  obtain ⟨⟨cls, dd, data, sl⟩, ho, hc, n, hd⟩ := id ht
  obtain ⟨⟨cls2, dd2, data2, sl2⟩, ho2, hc2, n2, hd2⟩ := id hb
  simp only at hc hd hc2 hd2
  subst hc hd hc2 hd2
  have e : vs.toArray ++ ws.toArray = (vs ++ ws).toArray := by simp
  by_cases hw : ws = []
  · exact concat_meets ⟨_, ho, rfl⟩ ⟨_, ho2, rfl⟩ noFill_tuple_add seq_tuple_add PySem.F.slot_tuple_add PySem.F.entry_tuple_add (PySem.F.args_tuple_add_2 _ _)
      (tuple_addW1 t b vs.toArray ws.toArray n n2 dd dd2 sl sl2 (by simpa using hv) (by simp [hw])) ⟨ho, ho2, h1 hw⟩
  · refine concat_meets ⟨_, ho, rfl⟩ ⟨_, ho2, rfl⟩ noFill_tuple_add seq_tuple_add PySem.F.slot_tuple_add PySem.F.entry_tuple_add (PySem.F.args_tuple_add_2 _ _)
      (tuple_addW2 t b vs.toArray ws.toArray n n2 dd dd2 sl sl2 (by simpa using hv) (by simpa using hw) (by rw [List.size_toArray, List.size_toArray]; exact hsz)) ⟨ho, ho2, ?_⟩
    rw [e]
    exact h2 hw
def sIx (n d : Nat) : Option Int → Nat
  | none => d
  | some v => if v < 0 then (v + (n : Int)).toNat else min v.toNat n
theorem sIx_none (n d : Nat) : sIx n d none = d := rfl
theorem sIx_le (n d : Nat) (hd : d ≤ n) (o : Option Int) : sIx n d o ≤ n := by
  cases o with
  | none => exact hd
  | some v =>
    show (if v < 0 then (v + (n : Int)).toNat else min v.toNat n) ≤ n
    by_cases hv : v < 0
    · rw [if_pos hv]; omega
    · rw [if_neg hv]; exact Nat.min_le_right _ _
theorem clip_eq (v : Int) (n d : Nat) : (if v < 0 then max (v + (n : Int)) 0 else min v (n : Int)) = ((sIx n d (some v) : Nat) : Int) := by
  show (if v < 0 then max (v + (n : Int)) 0 else min v (n : Int)) = (((if v < 0 then (v + (n : Int)).toNat else min v.toNat n) : Nat) : Int)
  by_cases hv : v < 0
  · simp only [if_pos hv]; omega
  · simp only [if_neg hv]; omega
theorem adjust_gen (lo hi : Option Int) (n : Nat) : Builtin.Slice.sliceAdjust lo hi 1 (n : Int) = (((sIx n 0 lo : Nat) : Int), ((sIx n n hi : Nat) : Int)) := by
  have h1 : ¬ ((1 : Int) < 0) := by omega
  unfold Builtin.Slice.sliceAdjust
  simp only [h1, if_false]
  refine Prod.ext ?_ ?_
  · cases lo with
    | none => rfl
    | some v => exact clip_eq v n 0
  · cases hi with
    | none => rfl
    | some v => exact clip_eq v n n
theorem places_gen (i j : Nat) : Builtin.Slice.slicePlaces (i : Int) (j : Int) 1 = j - i := by
  unfold Builtin.Slice.slicePlaces
  have h1 : (1 : Int) > 0 := by omega
  simp only [h1, if_true, Int.ediv_one]
  split <;> omega
theorem slicePart_ {v : Value} {o : Option Int} {Q : Option Int → Shared → Prop} (p : IsPart v o) (h : Q o s) : wpAny (model prog w) A (Builtin.Slice.slicePartIndex v) Q E s := by
  cases p with
  | none => exact slicePart_none h
  | int i t => exact slicePart_int h
theorem sliceApplied_gen {sl : Addr} {vl vu : Value} {lo hi : Option Int} {n : Nat} {Q : Int × Int × Nat → Shared → Prop} (hs : s.heap.IsSliceOf sl vl vu .none) (pl : IsPart vl lo) (pu : IsPart vu hi)
    (h : Q (((sIx n 0 lo : Nat) : Int), 1, sIx n n hi - sIx n 0 lo) s) : wpAny (model prog w) A (Builtin.Slice.sliceApplied (.ref sl) (pure (n : Int))) Q E s := by
  obtain ⟨os, hos, hcs, hds⟩ := id hs
  unfold Builtin.Slice.sliceApplied Builtin.Slice.sliceFields
  refine wpAny_bind (wpAny_bind (wpAny_field hos hds (x := vl) rfl (wpAny_bind (wpAny_field hos hds (x := vu) rfl (wpAny_bind (wpAny_field hos hds (x := .none) rfl (wpAny_pure ?_)))))))
  refine wpAny_bind (slicePart_none ?_)
  show wpAny _ _ (if ((1 : Int) == 0) = true then _ else _) _ _ s
  rw [if_neg (by decide)]
  refine wpAny_bind (slicePart_ pl (wpAny_bind (slicePart_ pu (wpAny_bind (wpAny_pure ?_)))))
  show wpAny _ _ (match Builtin.Slice.sliceAdjust lo hi 1 (n : Int) with | (lo, hi) => pure (lo, (1 : Int), Builtin.Slice.slicePlaces lo hi 1)) _ _ s
  rw [adjust_gen lo hi n]
  show wpAny _ _ (pure (((sIx n 0 lo : Nat) : Int), (1 : Int), Builtin.Slice.slicePlaces ((sIx n 0 lo : Nat) : Int) ((sIx n n hi : Nat) : Int) 1)) _ _ s
  rw [places_gen]
  exact wpAny_pure h
theorem pick_gen (xs : Array Value) (i k : Nat) : ((List.range k).filterMap fun (m : Nat) => xs[((i : Int) + (m : Int) * 1).toNat]?).toArray = ((xs.toList.drop i).take k).toArray := by
  have e : (fun (m : Nat) => xs[((i : Int) + (m : Int) * 1).toNat]?) = fun m => xs[i + m]? := by
    funext m
    have : ((i : Int) + (m : Int) * 1).toNat = i + m := by omega
    rw [this]
  rw [e]
  have := pick_run xs i k
  rw [List.filterMap_map] at this
  have e2 : ((fun x => xs[x]?) ∘ fun x => i + x) = fun m => xs[i + m]? := rfl
  rw [e2] at this
  rw [this]
theorem getItem_tuple_cut {t sl : Addr} {items : Array Value} {vl vu : Value} {lo hi : Option Int} {Q : Value → Shared → Prop} (ht : IsTup s.heap t items) (hs : s.heap.IsSliceOf sl vl vu .none) (pl : IsPart vl lo) (pu : IsPart vu hi)
    (hw : ¬ (sIx items.size 0 lo = 0 ∧ sIx items.size items.size hi = items.size))
    (h : Q (.ref s.heap.objs.size) { s with heap := s.heap.push { cls := .type "tuple", data := .seq ((items.toList.drop (sIx items.size 0 lo)).take (sIx items.size items.size hi - sIx items.size 0 lo)).toArray } })
    (hsz : items.size ≤ sizeLine) : wpAny (model prog w) A (getItem (.ref t) (.ref sl)) Q E s := by
  have htake : sizeOk (.seq ((items.toList.drop (sIx items.size 0 lo)).take (sIx items.size items.size hi - sIx items.size 0 lo)).toArray) := by
    show ((items.toList.drop (sIx items.size 0 lo)).take (sIx items.size items.size hi - sIx items.size 0 lo)).toArray.size ≤ sizeLine
    rw [List.size_toArray, List.length_take, List.length_drop, Array.length_toList]
    omega
  have hj : sIx items.size items.size hi ≤ items.size := sIx_le _ _ (Nat.le_refl _) hi
  obtain ⟨os, hos, hcs, hds⟩ := id hs
  have hTs : s.TypeIs (.ref sl) "slice" := ⟨os, hos, hcs⟩
  unfold getItem
  try with_reducible refine wpAny_holding ?_
  first | refine wpAny_bind (wpAny_pure ?_) | skip
  refine wpAny_bind (wpAny_sequenceKey ht.typeIs (by decide) ?_)
  refine wpAny_bind (wpAny_callSpecial?_slot (name := Str.ofString "__getitem__") ht.typeIs PyProof.Rows.slot_tuple_getitem
    (wpAny_call_entry PyProof.Rows.slot_tuple_getitem ht.typeIs entry_tuple_getitem ?_ (args_tuple_getitem _ _)))
  show wpAny _ _ (Builtin.Tuple.tupleItemsOf (.ref t) >>= _) _ _ s
  refine wpAny_bind (tupleItemsOf_ ht ?_)
  refine wpAny_bind (wpAny_typeOf hTs ?_)
  rw [if_pos (by decide)]
  refine wpAny_bind (sliceApplied_gen hs pl pu ?_)
  have hno : ¬ ((((sIx items.size 0 lo : Nat) : Int) == 0 && (1 : Int) == 1 && (sIx items.size items.size hi - sIx items.size 0 lo) == items.size) = true) := by
    intro q
    rw [Bool.and_eq_true, Bool.and_eq_true] at q
    have q1 : ((sIx items.size 0 lo : Nat) : Int) = 0 := eq_of_beq q.1.1
    have q2 : sIx items.size items.size hi - sIx items.size 0 lo = items.size := eq_of_beq q.2
    exact hw ⟨by omega, by omega⟩
  show wpAny _ _ (if (((sIx items.size 0 lo : Nat) : Int) == 0 && (1 : Int) == 1 && (sIx items.size items.size hi - sIx items.size 0 lo) == items.size) = true then _ else _) _ _ s
  rw [if_neg hno, pick_gen]
  first
    | exact wpAny_bind (m := Builtin.Tuple.tupleExact _) (wpAny_newObj_type (wpAny_pure ⟨_, rfl, wpAny_pure h⟩) htake)
    | exact wpAny_bind (m := Builtin.Tuple.tupleExact _) (wpAny_newObj_type (wpAny_bind (wpAny_pure (wpAny_pure ⟨_, rfl, wpAny_pure h⟩))) htake)
    | exact wpAny_bind (wpAny_bind (m := Builtin.Tuple.tupleExact _) (wpAny_newObj_type (wpAny_pure (wpAny_pure ⟨_, rfl, wpAny_pure h⟩)) htake))
    | exact wpAny_bind (wpAny_bind (m := Builtin.Tuple.tupleExact _) (wpAny_newObj_type (wpAny_pure ⟨_, rfl, wpAny_pure h⟩) htake))
end
end HT
namespace L2
open PySem PySem.Spec PyProof.Rows
abbrev TO := St → Hp → (Option Int → Hp → Prop) → Prop
def PO (X : Cx) (e : Option Expr) (t : TO) : Prop :=
  ∀ (pins : List (Addr × Obj)) (s : Shared) (σ : St) (H : Hp) (Q : Option Int → Hp → Prop), Inv X pins σ H s → t σ H Q →
    wpAny (model X.prog X.w) X.A (evalPart e X.env) (fun u s' => ∃ o H', Inv X pins σ H' s' ∧ IsPart u o ∧ Q o H') X.xe s
def tNoPart : TO := fun _ H Q => Q none H
def tPart (t : TE) : TO := fun σ H Q => t σ H fun x H1 => ∃ i, x = .int i ∧ Q (some i) H1
section
variable {X : Cx} {e : Expr} {te : TE} {lo hi : Option Expr} {tl th : TO} {pos p2 : Pos}
theorem po_none : PO X none tNoPart := by
  intro pins s σ H Q I h
  rw [evalPart_none]
  exact wpAny_pure ⟨none, H, I, .none, h⟩
theorem po_some (h : PE X e te) : PO X (some e) (tPart te) := by
  intro pins s σ H Q I hw
  rw [evalPart_some]
  refine thn (h pins s σ H _ I hw) fun u s1 ⟨x, H1, I1, r1, q1⟩ => ?_
  obtain ⟨i, rfl, q⟩ := q1
  obtain ⟨t, rfl⟩ := r1
  exact ⟨some i, H1, I1, .int i t, q⟩
def SlR (X : Cx) (r : V → Option Int → Option Int → Hp → VK → Prop) : Prop :=
  ∀ (pins : List (Addr × Obj)) (s : Shared) (σ : St) (H : Hp) (x : V) (v vl vu : Value) (lo hi : Option Int) (sl : Addr) (Q : VK), Inv X pins σ H s → RelV x v → s.heap.IsSliceOf sl vl vu .none → IsPart vl lo → IsPart vu hi → r x lo hi H Q →
    ∃ T id, typeLookup (.type T) "__getitem__" = pure (some (.builtin id)) ∧ s.TypeIs v T ∧ wpAny (model X.prog X.w) X.A (getItem v (.ref sl)) (EP X pins σ Q) X.xe s
theorem SlR.or {r r' : V → Option Int → Option Int → Hp → VK → Prop} (h : SlR X r) (h' : SlR X r') : SlR X (fun x lo hi H Q => r x lo hi H Q ∨ r' x lo hi H Q) := by
  intro pins s σ H x v vl vu lo hi sl Q I rx hs pl pu q
  rcases q with q | q
  · exact h pins s σ H x v vl vu lo hi sl Q I rx hs pl pu q
  · exact h' pins s σ H x v vl vu lo hi sl Q I rx hs pl pu q
def tSl (r : V → Option Int → Option Int → Hp → VK → Prop) (te : TE) (tl th : TO) : TE := fun σ H Q => te σ H fun x H1 => tl σ H1 fun l H2 => th σ H2 fun u H3 => r x l u H3 Q
theorem pe_slice {r : V → Option Int → Option Int → Hp → VK → Prop} (hr : SlR X r) (he : PE X e te) (hl : PO X lo tl) (hu : PO X hi th) : PE X (.Subscript e (.Slice lo hi none p2) pos) (tSl r te tl th) := by
  intro pins s σ H Q I h
  refine Subscript_ (thn (he pins s σ H _ I h) fun v s1 ⟨x, H1, I1, r1, q1⟩ => ?_)
  refine wpAny_Slice (thn (hl pins s1 σ H1 _ I1 q1) fun vl s2 ⟨l, H2, I2, pl, q2⟩ => thn (hu pins s2 σ H2 _ I2 q2) fun vu s3 ⟨u, H3, I3, pu, q3⟩ => ?_)
  rw [evalPart_none]
  refine wpAny_pure ?_
  have I4 : Inv X pins σ H3 { s3 with heap := s3.heap.push { cls := .type "slice", data := .fields #[vl, vu, .none] } } := I3.kept (t' := s3.toks) fun b ob q => Heap.get?_push_of_some _ q
  obtain ⟨T, id, hT, ht, hg⟩ := hr pins { s3 with heap := s3.heap.push { cls := .type "slice", data := .fields #[vl, vu, .none] } } σ H3 x v vl vu l u s3.heap.objs.size Q I4 r1 (Heap.IsSliceOf.new ..) pl pu q3
  show wpAny (model X.prog X.w) X.A (subscriptTail e (.Slice lo hi none p2) v (.ref s3.heap.objs.size)) (EP X pins σ Q) X.xe { s3 with heap := s3.heap.push { cls := .type "slice", data := .fields #[vl, vu, .none] } }
  exact tail_any (ops := [.ref s3.heap.objs.size, v]) ht hT hg (by with_unfolding_all rfl)
def cutV (xs : List V) (lo hi : Option Int) : List V := (xs.drop (HT.sIx xs.length 0 lo)).take (HT.sIx xs.length xs.length hi - HT.sIx xs.length 0 lo)
theorem cutV_length (xs : List V) (lo hi : Option Int) : (cutV xs lo hi).length ≤ xs.length := by
  unfold cutV
  rw [List.length_take, List.length_drop]
  omega
def rSlT (K : PySem.W.Frag) : V → Option Int → Option Int → Hp → VK → Prop := fun x lo hi H Q => ∃ a xs, x = .ref a ∧ SqT K H a xs ∧
  ¬ (HT.sIx xs.length 0 lo = 0 ∧ HT.sIx xs.length xs.length hi = xs.length) ∧ ∀ p, H p = none → Q (.ref p) (upd H p (.tup (cutV xs lo hi)))
theorem sl_tup : SlR X (rSlT X.K) := by
  intro pins s σ H x v vl vu lo hi sl Q I rx hs pl pu h
  obtain ⟨a, xs, rfl, hx, hw, q⟩ := h
  cases rx
  obtain ⟨its, r, ht, hz⟩ := I.tuple hx
  have hlen : its.toArray.size = xs.length := by rw [List.size_toArray]; exact r.length.symm
  refine ⟨"tuple", _, PyProof.Rows.slot_tuple_getitem.lookup, ht.typeIs, ?_⟩
  refine HT.getItem_tuple_cut ht hs pl pu (by rw [hlen]; exact hw) ?_ (by rw [hlen]; exact hz)
  rw [hlen]
  refine ⟨.ref s.heap.objs.size, _, I.laid (t' := s.toks) (o := .tup (cutV xs lo hi)) (fun b ob q => Heap.get?_push_of_some _ q) (Nat.le_refl _) ?_, rfl, q _ (I.hok.fresh (Nat.le_refl _))⟩
  exact ⟨Nat.le_trans (cutV_length xs lo hi) hz, _, (r.drop (HT.sIx xs.length 0 lo)).take (HT.sIx xs.length xs.length hi - HT.sIx xs.length 0 lo), IsTup.new _ _⟩
def rCatT (K : PySem.W.Frag) : R2 := fun x y H Q => ∃ a b xs ys, x = .ref a ∧ y = .ref b ∧ SqT K H a xs ∧ SqT K H b ys ∧ xs ≠ [] ∧ xs.length + ys.length ≤ sizeLine ∧
  (ys = [] → Q (.ref a) H) ∧ (ys ≠ [] → ∀ p, H p = none → Q (.ref p) (upd H p (.tup (xs ++ ys))))
theorem Vals.nil_iff {xs : List V} {us : List Value} (r : Vals xs us) : us = [] ↔ xs = [] := by
  cases r with
  | nil => simp
  | cons _ _ => simp
theorem op_catT : OpR X (binaryOp .Add) (rCatT X.K) := by
  intro pins s σ H x y v u Q I rx ry h
  obtain ⟨a, b, xs, ys, rfl, rfl, ha, hb, hx, hz, q1, q2⟩ := h
  cases rx
  cases ry
  obtain ⟨its, r1, p1, _⟩ := I.tuple ha
  obtain ⟨its2, r2, p2, _⟩ := I.tuple hb
  refine HT.cat_tup p1 p2 (fun z => hx (r1.nil_iff.mp z)) (fun z => ⟨.ref a, H, I, rfl, q1 (r2.nil_iff.mp z)⟩) (fun z => ?_) (by rw [← r1.length, ← r2.length]; exact hz)
  refine ⟨.ref s.heap.objs.size, _, I.laid (t' := s.toks) (o := .tup (xs ++ ys)) (fun b ob q => Heap.get?_push_of_some _ q) (Nat.le_refl _) ?_, rfl, q2 (fun w => z (r2.nil_iff.mpr w)) _ (I.hok.fresh (Nat.le_refl _))⟩
  exact ⟨by rw [List.length_append]; exact hz, _, r1.append r2, IsTup.new _ _⟩
end
end L2
namespace L2
open PySem PySem.Spec PyProof.Rows
def ixN (n : Nat) (i : Int) : Option Nat := if 0 ≤ i then (if i < n then some i.toNat else none) else if -(n : Int) ≤ i then some (i + n).toNat else none
def atI {α : Type} (xs : List α) (i : Int) : Option α := (ixN xs.length i).bind fun j => xs[j]?
theorem ixN_seq {n : Nat} {i : Int} {j : Nat} (h : ixN n i = some j) : seqIndex? i n = some j ∧ j < n ∧ -(n : Int) ≤ i ∧ i < n := by
  unfold ixN at h
  by_cases h0 : 0 ≤ i
  · rw [if_pos h0] at h
    by_cases h1 : i < n
    · rw [if_pos h1] at h
      have e : i.toNat = j := Option.some.inj h
      exact ⟨by rw [seqIndex_of h0 h1, e], by omega, by omega, h1⟩
    · rw [if_neg h1] at h; cases h
  · rw [if_neg h0] at h
    by_cases h1 : -(n : Int) ≤ i
    · rw [if_pos h1] at h
      have e : (i + n).toNat = j := Option.some.inj h
      exact ⟨by rw [seqIndex_neg (by omega) h1, e], by omega, h1, by omega⟩
    · rw [if_neg h1] at h; cases h
theorem atI_get {α : Type} {xs : List α} {i : Int} {v : α} (h : atI xs i = some v) : ∃ j, seqIndex? i xs.length = some j ∧ xs[j]? = some v ∧ j < xs.length ∧ -(xs.length : Int) ≤ i ∧ i < xs.length := by
  unfold atI at h
  cases e : ixN xs.length i with
  | none => rw [e] at h; cases h
  | some j =>
    rw [e] at h
    obtain ⟨h1, h2, h3, h4⟩ := ixN_seq e
    exact ⟨j, h1, h, h2, h3, h4⟩
theorem atI_nat {α : Type} {xs : List α} {j : Nat} {v : α} (h : xs[j]? = some v) : atI xs (j : Int) = some v := by
  have hj : j < xs.length := (List.getElem?_eq_some_iff.mp h).1
  have e : ixN xs.length (j : Int) = some j := by
    unfold ixN
    rw [if_pos (by omega), if_pos (by omega)]; simp
  unfold atI; rw [e]; exact h
def PlainIx (b : Expr) : Prop := ∀ o i, subscripted b false o i = operate [o, i] (getItem o i)
def IxR (X : Cx) (r : R2) : Prop :=
  ∀ (value slice : Expr) (pins : List (Addr × Obj)) (s : Shared) (σ : St) (H : Hp) (x y : V) (v u : Value) (Q : VK), Inv X pins σ H s → RelV x v → RelV y u → r x y H Q →
    subscripted slice false v u = operate [v, u] (getItem v u) → wpAny (model X.prog X.w) X.A (subscriptTail value slice v u) (EP X pins σ Q) X.xe s
def MtR (X : Cx) (id : String) (r : V → List V → Hp → VK → Prop) : Prop :=
  ∀ (pins : List (Addr × Obj)) (s : Shared) (σ : St) (H : Hp) (x : V) (xs : List V) (v : Value) (us : List Value) (Q : VK), Inv X pins σ H s → RelV x v → Vals xs us → r x xs H Q →
    wpAny (model X.prog X.w) X.A (call (.builtin id) (v :: us)) (EP X pins σ Q) X.xe s
section
variable {X : Cx} {a b : Expr} {ta tb : TE} {pos : Pos}
theorem IxR.or {r r' : R2} (h : IxR X r) (h' : IxR X r') : IxR X (fun x y H Q => r x y H Q ∨ r' x y H Q) := by
  intro value slice pins s σ H x y v u Q I rx ry q hs
  rcases q with q | q
  · exact h value slice pins s σ H x y v u Q I rx ry q hs
  · exact h' value slice pins s σ H x y v u Q I rx ry q hs
theorem MtR.or {id : String} {r r' : V → List V → Hp → VK → Prop} (h : MtR X id r) (h' : MtR X id r') : MtR X id (fun x xs H Q => r x xs H Q ∨ r' x xs H Q) := by
  intro pins s σ H x xs v us Q I rx rs q
  rcases q with q | q
  · exact h pins s σ H x xs v us Q I rx rs q
  · exact h' pins s σ H x xs v us Q I rx rs q
theorem pe_ix {r : R2} (hr : IxR X r) (ha : PE X a ta) (hb : PE X b tb) (hs : PlainIx b) : PE X (.Subscript a b pos) (tOp r ta tb) := by
  intro pins s σ H Q I h
  exact Subscript_ (binT ha hb I h fun v u s2 x y H2 I2 rx ry q => hr a b pins s2 σ H2 x y v u Q I2 rx ry q (hs _ _))
def rIxL (K : PySem.W.Frag) : R2 := fun x y H Q => ∃ p xs i v, x = .ref p ∧ y = .int i ∧ SqL K H p xs ∧ atI xs i = some v ∧ Q v H
def rIxT (K : PySem.W.Frag) : R2 := fun x y H Q => ∃ p xs i v, x = .ref p ∧ y = .int i ∧ SqT K H p xs ∧ atI xs i = some v ∧ Q v H
def rIxS : R2 := fun x y H Q => ∃ z i c, x = .str z ∧ y = .int i ∧ z.length ≤ sizeLine ∧ atI z.cps.toList i = some c ∧ Q (.str ⟨#[c]⟩) H
theorem ix_list : IxR X (rIxL X.K) := by
  intro value slice pins s σ H x y v u Q I rx ry h hs
  obtain ⟨p, xs, i, z, rfl, rfl, hq, he, q⟩ := h
  cases rx
  obtain ⟨t, rfl⟩ := ry
  obtain ⟨its, r, pl, hz⟩ := I.list hq
  obtain ⟨j, h1, h2, h3, h4, h5⟩ := atI_get he
  obtain ⟨w, ew, rw'⟩ := r.get h2
  have hl := r.length
  have hn := line63
  have fin : EP X pins σ Q w s := ⟨z, H, I, rw', q⟩
  by_cases h0 : 0 ≤ i
  · have hj : i.toNat = j := by
      rw [seqIndex_of h0 h5] at h1
      exact Option.some.inj h1
    exact item_listR pl.isList h0 (by omega) (by rw [hj]; simpa using ew) fin hs
  · have hj : (i + (its.toArray.size : Int)).toNat = j := by
      rw [seqIndex_neg (by omega) h4] at h1
      rw [List.size_toArray, ← hl]
      exact Option.some.inj h1
    exact subscriptTail_builtinR (x := w) pl.isList.typeIs slot_list_getitem.lookup
      (wpAny_getItem_list_neg (Q := fun r s' => r = w ∧ EP X pins σ Q r s') pl.isList (by omega) (by rw [List.size_toArray] <;> omega) (by omega) (by rw [hj]; simpa using ew) ⟨rfl, fin⟩) hs
theorem ix_tup : IxR X (rIxT X.K) := by
  intro value slice pins s σ H x y v u Q I rx ry h hs
  obtain ⟨p, xs, i, z, rfl, rfl, hq, he, q⟩ := h
  cases rx
  obtain ⟨t, rfl⟩ := ry
  obtain ⟨its, r, pl, hz⟩ := I.tuple hq
  obtain ⟨j, h1, h2, h3, h4, h5⟩ := atI_get he
  obtain ⟨w, ew, rw'⟩ := r.get h2
  have hl := r.length
  have hn := line63
  have fin : EP X pins σ Q w s := ⟨z, H, I, rw', q⟩
  exact subscriptTail_builtinR (x := w) pl.typeIs slot_tuple_getitem.lookup
    (getItem_tuple (j := j) (Q := fun r s' => r = w ∧ EP X pins σ Q r s') pl (by omega) (by omega) (by rw [List.size_toArray, ← hl]; exact h1) (by simpa using ew) ⟨rfl, fin⟩) hs
theorem ix_str : IxR X rIxS := by
  intro value slice pins s σ H x y v u Q I rx ry h hs
  obtain ⟨z, i, c, rfl, rfl, hz, he, q⟩ := h
  obtain ⟨t, rfl⟩ := rx
  obtain ⟨t', rfl⟩ := ry
  obtain ⟨j, h1, h2, h3, h4, h5⟩ := atI_get he
  have hl : z.cps.toList.length = z.length := by simp [Str.length]
  rw [hl] at h1 h4 h5
  have hn := line63
  exact tail_any (typeIs_str s z t) slot_str_getitem.lookup (getItem_str (c := c) (by
    have e1 : decide (i < -(2 ^ 63 : Int)) = false := decide_eq_false (by omega)
    have e2 : decide (i ≥ 2 ^ 63) = false := decide_eq_false (by omega)
    rw [e1, e2, Bool.or_false]) (by rw [h1]; simpa using h2) ⟨.str ⟨#[c]⟩, H, I.tok _, ⟨_, rfl⟩, q⟩) hs
def rIx (K : PySem.W.Frag) : R2 := fun x y H Q => rIxL K x y H Q ∨ rIxT K x y H Q ∨ rIxS x y H Q
theorem ix_seq : IxR X (rIx X.K) := ix_list.or (ix_tup.or ix_str)
theorem Inv.lst {pins : List (Addr × Obj)} {σ : St} {H : Hp} {s : Shared} {p : Addr} {xs : List V} (I : Inv X pins σ H s) (h : H p = some (.lst xs)) :
    ∃ (its : List Value) (n : Nat), Vals xs its ∧ s.heap.get? p = some { cls := .type "list", data := .seq its.toArray n } ∧ xs.length ≤ sizeLine := by
  obtain ⟨z, its, n, r, e⟩ := I.hok p _ h
  exact ⟨its, n, r, e, z⟩
theorem slice_bounds (lo hi : Option Int) (n : Nat) : (sliceBounds lo hi none n).1 = ((HT.sIx n 0 lo : Nat) : Int) ∧ (sliceBounds lo hi none n).2.1 = ((HT.sIx n n hi : Nat) : Int) ∧ (sliceBounds lo hi none n).2.2 = 1 := by
  refine ⟨?_, ?_, rfl⟩
  · cases lo with
    | none => simp [sliceBounds, HT.sIx]
    | some i =>
      simp only [sliceBounds, HT.sIx, Option.getD_none, show (1 : Int) > 0 by decide, if_true]
      by_cases h : i < 0
      · simp only [h, if_true] <;> omega
      · simp only [h, if_false] <;> omega
  · cases hi with
    | none => simp [sliceBounds, HT.sIx]
    | some i =>
      simp only [sliceBounds, HT.sIx, Option.getD_none, show (1 : Int) > 0 by decide, if_true]
      by_cases h : i < 0
      · simp only [h, if_true] <;> omega
      · simp only [h, if_false] <;> omega
theorem slicePick_cut (its : List Value) (lo hi : Option Int) : slicePick its.toArray lo hi none = ((its.drop (HT.sIx its.length 0 lo)).take (HT.sIx its.length its.length hi - HT.sIx its.length 0 lo)).toArray := by
  obtain ⟨h1, h2, h3⟩ := slice_bounds lo hi its.toArray.size
  unfold slicePick
  rw [h1, h2, h3]
  simp only [sliceRange_one, pick_run, List.size_toArray] <;> rfl
def rSlL (K : PySem.W.Frag) : V → Option Int → Option Int → Hp → VK → Prop := fun x lo hi H Q => ∃ a xs, x = .ref a ∧ SqL K H a xs ∧ ∀ p, H p = none → Q (.ref p) (upd H p (.lst (cutV xs lo hi)))
theorem sl_list : SlR X (rSlL X.K) := by
  intro pins s σ H x v vl vu lo hi sl Q I rx hs pl pu h
  obtain ⟨a, xs, rfl, hx, q⟩ := h
  cases rx
  obtain ⟨its, r, ht, hz⟩ := I.list hx
  have hlen := r.length
  refine ⟨"list", _, slot_list_getitem.lookup, ht.isList.typeIs, ?_⟩
  refine wpAny_getItem_list_slice ht.isList hs pl pu .none (by simp) ?_ (by rw [List.size_toArray] <;> omega)
  rw [slicePick_cut, ← hlen]
  refine ⟨.ref s.heap.objs.size, _, I.laid (t' := s.toks) (o := .lst (cutV xs lo hi)) (fun b ob q => Heap.get?_push_of_some _ q) (Nat.le_refl _) ?_, rfl, q _ (I.hok.fresh (Nat.le_refl _))⟩
  exact ⟨Nat.le_trans (cutV_length xs lo hi) hz, _, 0, (r.drop (HT.sIx xs.length 0 lo)).take (HT.sIx xs.length xs.length hi - HT.sIx xs.length 0 lo), Heap.get?_push_size _ rfl⟩
theorem call_len_seq : CallR X (.builtin "len") (fun xs H Q => ∃ p ys, xs = [.ref p] ∧ (SqL X.K H p ys ∨ SqT X.K H p ys) ∧ Q (.int ys.length) H) := by
  intro pins s σ H xs us Q I r h
  obtain ⟨p, ys, rfl, hq, q⟩ := h
  obtain ⟨u, rfl, rx⟩ := vals1 r
  cases rx
  have hn := line63
  rcases hq with hq | hq
  · obtain ⟨its, r', pl, hz⟩ := I.list hq
    have hlen := r'.length
    exact Calls.call_len_list pl.isList (by simp only [List.size_toArray] <;> omega) ⟨.int ys.length, H, I.tok _, ⟨s.toks + 1, by rw [List.size_toArray, hlen]⟩, q⟩
  · obtain ⟨its, r', pl, hz⟩ := I.tuple hq
    have hlen := r'.length
    exact len_tuple pl (by simp only [List.size_toArray] <;> omega) ⟨.int ys.length, H, I.tok _, ⟨s.toks + 1, by rw [List.size_toArray, hlen]⟩, q⟩
theorem call_len_str : CallR X (.builtin "len") (fun xs H Q => ∃ z, xs = [.str z] ∧ z.length ≤ sizeLine ∧ Q (.int z.length) H) := by
  intro pins s σ H xs us Q I r h
  obtain ⟨z, rfl, hz, q⟩ := h
  obtain ⟨u, rfl, t, rfl⟩ := vals1 r
  have hn := line63
  exact len_str (by omega) ⟨.int z.length, H, I.tok _, ⟨_, rfl⟩, q⟩
theorem CallR.or {f : Value} {r r' : List V → Hp → VK → Prop} (h : CallR X f r) (h' : CallR X f r') : CallR X f (fun xs H Q => r xs H Q ∨ r' xs H Q) := by
  intro pins s σ H xs us Q I rs q
  rcases q with q | q
  · exact h pins s σ H xs us Q I rs q
  · exact h' pins s σ H xs us Q I rs q
theorem call_tuple_of : CallR X (.type "tuple") (fun xs H Q => ∃ p ys, xs = [.ref p] ∧ ((SqL X.K H p ys ∧ ∀ l, H l = none → Q (.ref l) (upd H l (.tup ys))) ∨ (SqT X.K H p ys ∧ Q (.ref p) H))) := by
  intro pins s σ H xs us Q I r h
  obtain ⟨p, ys, rfl, h⟩ := h
  obtain ⟨u, rfl, rx⟩ := vals1 r
  cases rx
  rcases h with ⟨hq, q⟩ | ⟨hq, q⟩
  · obtain ⟨its, r', pl, hz⟩ := I.list hq
    have hlen := r'.length
    refine call_tuple_list pl.isList (fun h' kp => ?_) (by simp only [List.size_toArray] <;> omega)
    have I1 : Inv X pins σ H { s with heap := h' } := I.kept (t' := s.toks) kp
    have I2 : Inv X pins σ (upd H h'.objs.size (.tup ys)) { s with heap := h'.push { cls := .type "tuple", data := .seq its.toArray } } :=
      I1.laid (t' := s.toks) (fun b o e => Heap.get?_push_of_some _ e) (Nat.le_refl _) (show ObjOk X.prog X.w _ _ _ (.tup ys) from ⟨hz, its, r', IsTup.new _ _⟩)
    exact ⟨.ref h'.objs.size, _, I2, rfl, q _ (I1.hok.fresh (Nat.le_refl _))⟩
  · obtain ⟨its, r', pl, hz⟩ := I.tuple hq
    exact call_tuple_same pl ⟨.ref p, H, I, rfl, q⟩
def tyV (K : PySem.W.Frag) (T : String) (x : V) (H : Hp) : Prop := match x with
  | .str _ => T = "str"
  | .int _ => T = "int"
  | .ref p => (T = "list" ∧ ∃ xs, SqL K H p xs) ∨ (T = "tuple" ∧ ∃ o, K.lookup p = some o ∧ o.cls = .type "tuple" ∧ o.dict = none) ∨
      (T = "dict" ∧ ((∃ kvs, H p = some (.dK kvs)) ∨ ∃ kvs, H p = some (.dT kvs))) ∨ (T = "set" ∧ ∃ S n, H p = some (.set S n))
  | _ => False
theorem tyV_is {pins : List (Addr × Obj)} {σ : St} {H : Hp} {s : Shared} {T : String} {x : V} {v : Value} (I : Inv X pins σ H s) (r : RelV x v) (ty : tyV X.K T x H) :
    s.TypeIs v T ∧ ∀ a, v = .ref a → ∃ ob, s.heap.get? a = some ob ∧ ob.dict = none := by
  cases x with
  | str z =>
    obtain ⟨t, rfl⟩ := r
    cases (show T = "str" from ty)
    exact ⟨typeIs_str s z t, fun _ e => nomatch e⟩
  | int i =>
    obtain ⟨t, rfl⟩ := r
    cases (show T = "int" from ty)
    exact ⟨typeIs_int s i t, fun _ e => nomatch e⟩
  | ref p =>
    cases r
    rcases ty with ⟨rfl, xs, hq⟩ | ⟨rfl, o, hk, hc, hd⟩ | ⟨rfl, hk⟩ | ⟨rfl, S, n, hk⟩
    · obtain ⟨its, _, pl, _⟩ := I.list hq
      refine ⟨pl.isList.typeIs, fun a e => ?_⟩
      cases e
      obtain ⟨o, n, e, c, hd, _⟩ := pl
      exact ⟨o, e, hd⟩
    · refine ⟨⟨o, I.kIn p o hk, hc⟩, fun a e => ?_⟩
      cases e
      exact ⟨o, I.kIn _ o hk, hd⟩
    · have z : ∃ o, s.heap.get? p = some o ∧ o.ExactDict := by
        rcases hk with ⟨kvs, hk⟩ | ⟨kvs, hk⟩
        · obtain ⟨_, _, _, _, o, _, _, e, ex, _⟩ := I.hok p _ hk
          exact ⟨o, e, ex⟩
        · obtain ⟨_, _, _, _, o, _, _, e, ex, _⟩ := I.hok p _ hk
          exact ⟨o, e, ex⟩
      obtain ⟨o, e, ex⟩ := z
      refine ⟨⟨o, e, ex.1⟩, fun a e2 => ?_⟩
      cases e2
      exact ⟨o, e, ex.2.1⟩
    · obtain ⟨o, _, _, _, e, ex, _⟩ := I.hok p _ hk
      refine ⟨⟨o, e, ex.1⟩, fun a e2 => ?_⟩
      cases e2
      exact ⟨o, e, ex.2.1⟩
  | _ => exact False.elim ty
def tBM (K : PySem.W.Frag) (T : String) (r : V → List V → Hp → VK → Prop) (to : TE) (t : TA) : TE := fun σ H Q => to σ H fun x H1 => tyV K T x H1 ∧ t σ H1 fun xs H2 => r x xs H2 Q
variable {o e : Expr} {es : List Expr} {to : TE} {t : TA} {name : Str} {apos cpos : Pos} {T id : String} {r : V → List V → Hp → VK → Prop}
theorem pe_bm (pa : PlainAttrs T) (slot : Slot T name id) (hty : typeOf (.builtin id) = pure (.type "method_descriptor")) (hm : MtR X id r) (ho : PE X o to) (ha : PA X (e :: es) t)
    (hbase : attributeBase o name X.env (eval o X.env) = eval o X.env := by rfl)
    (hfew : ((backTo cpos (starEach (e :: es) X.env)).all (fun x => !x.1) && (backToKw cpos (keywordEach [] X.env)).all (fun x => x.1.isSome)
      && decide ((e :: es).length + ([] : List Keyword).length + (if ([] : List Keyword).isEmpty then 0 else 1) < 30)) = true := by rfl)
    (hline : (apos.endLine == cpos.line) = true := by rfl) (hs : starEach (e :: es) X.env = (false, eval e X.env) :: starEach es X.env := by rfl) (hplain : (backTo cpos (starEach es X.env)).any (·.1) = false := by rfl) :
    PE X (.Call (.Attribute o name apos) (e :: es) [] cpos) (tBM X.K T r to t) := by
  intro pins s σ H Q I h
  refine wpAny_Call_method_late hbase hfew hline rfl (thn (ho pins s σ H _ I h) fun v s1 ⟨x, H1, I1, r1, ty, q1⟩ => ?_)
  obtain ⟨h1, h2⟩ := tyV_is I1 r1 ty
  refine ⟨T, id, pa, slot, hty, h1, h2, ?_⟩
  have hA := ha cpos pins s1 σ H1 _ I1 q1
  rw [hs] at hA ⊢
  refine Calls.callWith_builtin (by show (false || (backTo cpos (starEach es X.env)).any (·.1)) = false; rw [hplain] <;> rfl) (Calls.evalArgs_plain ?_)
  exact thn hA fun us s2 ⟨vs, H2, I2, r2, q2⟩ => hm pins s2 σ H2 x vs v us Q I2 r1 r2 q2
/- xs.append(e), list.index on a module's tuple .. are MtR facts of 06m -/
end
end L2
namespace L2
open PySem PySem.Spec PyProof.Rows
def MtM (X : Cx) (id : String) (r : V → List V → Hp → VK → Prop) : Prop :=
  ∀ (pins : List (Addr × Obj)) (s : Shared) (σ : St) (H : Hp) (x : V) (xs : List V) (v : Value) (us : List Value) (Q : VK), Inv X pins σ H s → RelV x v → Vals xs us → r x xs H Q →
    wpAny (model X.prog X.w) X.A (call (.builtin id) (v :: us)) (EP X pins σ Q) X.xe s
theorem Vals.one : ∀ {x : V} {us : List Value}, Vals [x] us → ∃ u, us = [u] ∧ RelV x u
  | _, _, .cons r .nil => ⟨_, rfl, r⟩
theorem Vals.two : ∀ {x y : V} {us : List Value}, Vals [x, y] us → ∃ u v, us = [u, v] ∧ RelV x u ∧ RelV y v
  | _, _, _, .cons r (.cons q .nil) => ⟨_, _, rfl, r, q⟩
theorem Vals.zero : ∀ {us : List Value}, Vals [] us → us = []
  | _, .nil => rfl
theorem Vals.eraseIdx : ∀ {xs : List V} {us : List Value} (i : Nat), Vals xs us → Vals (xs.eraseIdx i) (us.eraseIdx i)
  | _, _, _, .nil => .nil
  | _, _, 0, .cons _ t => t
  | _, _, i + 1, .cons r t => .cons r (Vals.eraseIdx i t)
theorem Vals.reverse {xs : List V} {us : List Value} (h : Vals xs us) : Vals xs.reverse us.reverse := by
  induction h with
  | nil => exact .nil
  | cons r t ih => rw [List.reverse_cons, List.reverse_cons]; exact Vals.append ih (.cons r .nil)
theorem Vals.rep {xs : List V} {us : List Value} (h : Vals xs us) : ∀ k : Nat, Vals (List.replicate k xs).flatten (List.replicate k us).flatten
  | 0 => .nil
  | k + 1 => by
    rw [List.replicate_succ, List.replicate_succ, List.flatten_cons, List.flatten_cons]
    exact Vals.append h (Vals.rep h k)
theorem foldl_rep (its : List Value) : ∀ (k : Nat) (acc : List Value),
    List.foldl (fun x1 x2 => x1 ++ x2) acc.toArray (List.replicate k its.toArray) = (acc ++ (List.replicate k its).flatten).toArray
  | 0, acc => by simp
  | k + 1, acc => by
    have e : acc.toArray ++ its.toArray = (acc ++ its).toArray := by simp
    have e2 : (acc ++ its) ++ (List.replicate k its).flatten = acc ++ (List.replicate (k + 1) its).flatten := by
      rw [List.replicate_succ, List.flatten_cons, List.append_assoc]
    rw [← e2, ← foldl_rep its k (acc ++ its), ← e, List.replicate_succ, List.foldl_cons]
section
variable {X : Cx} {pins : List (Addr × Obj)} {σ : St} {H : Hp} {s : Shared} {l b : Addr} {xs ys zs : List V}
theorem Inv.lset {its its' : List Value} {n : Nat} {f : Array Value → Array Value} {t' : Nat} (I : Inv X pins σ H s) (hH : H l = some (.lst xs))
    (e : s.heap.get? l = some { cls := .type "list", data := .seq its.toArray n }) (hf : f its.toArray = its'.toArray) (hv : Vals ys its') (hz : ys.length ≤ sizeLine) :
    Inv X pins σ (upd H l (.lst ys)) { s with heap := s.heap.update l (Obj.mapSeq f), toks := t' } := by
  have q := PySem.IsL.update e f
  rw [hf] at q
  refine I.write (x := l) (e := l) (by rw [hH]; exact trivial) (.inl rfl) (fun b' u hb hu => (Heap.get?_update_other s.heap (Obj.mapSeq f) (Ne.symm hb)).trans hu) ⟨_, q⟩ ?_
  exact ⟨hz, its', _, hv, q⟩
theorem Inv.lnew {its : List Value} {t' : Nat} (I : Inv X pins σ H s) (hv : Vals ys its) (hz : ys.length ≤ sizeLine) :
    Inv X pins σ (upd H s.heap.objs.size (.lst ys)) { s with heap := s.heap.push { cls := .type "list", data := .seq its.toArray }, toks := t' } :=
  I.laid (fun _ _ q => Heap.get?_push_of_some _ q) (Nat.le_refl _) ⟨hz, its, 0, hv, Heap.get?_push_size _ rfl⟩
theorem Inv.fresh (I : Inv X pins σ H s) : H s.heap.objs.size = none := I.hok.fresh (Nat.le_refl _)
theorem Inv.lstM (I : Inv X pins σ H s) (hH : H l = some (.lst xs)) : xs.length ≤ sizeLine ∧ ∃ (its : List Value) (n : Nat), Vals xs its ∧ xs.length = its.length ∧ s.heap.get? l = some { cls := .type "list", data := .seq its.toArray n } := by
  obtain ⟨z, its, n, r, e⟩ := I.hok l _ hH
  exact ⟨z, its, n, r, r.length, e⟩
theorem notLongL {n : Nat} (h : n ≤ sizeLine) : Builtin.List.listTooLong n = false := by
  unfold Builtin.List.listTooLong
  exact decide_eq_false (by omega)
end
section
variable {X : Cx}
def rAppend : V → List V → Hp → VK → Prop := fun x vs H Q => ∃ l xs y, x = .ref l ∧ vs = [y] ∧ H l = some (.lst xs) ∧ xs.length < sizeLine ∧ Q .non (upd H l (.lst (xs ++ [y])))
theorem mt_append : MtM X "list.append" rAppend := by
  intro pins s σ H x vs v us Q I rx rv h
  obtain ⟨l, xs, y, rfl, rfl, hH, hz, q⟩ := h
  cases rx
  obtain ⟨u, rfl, ru⟩ := rv.one
  obtain ⟨z, its, n, r, hl, e⟩ := I.lstM hH
  refine call_meets F.slot_list_append ⟨_, e, rfl⟩ F.entry_list_append (F.args_list_append_2 _ _) (PySem.list_append l its.toArray n u (by rw [List.size_toArray]; omega)) ⟨e, ?_⟩
  refine ⟨.non, _, I.lset (its' := its ++ [u]) hH e (by simp) (r.append (.cons ru .nil)) ?_, rfl, q⟩
  rw [List.length_append, List.length_singleton]
  omega
def rCat : R2 := fun x y H Q => ∃ l b xs zs, x = .ref l ∧ y = .ref b ∧ H l = some (.lst xs) ∧ H b = some (.lst zs) ∧ xs.length + zs.length ≤ sizeLine ∧ ∀ p, H p = none → Q (.ref p) (upd H p (.lst (xs ++ zs)))
theorem op_cat : OpR X (binaryOp .Add) rCat := by
  intro pins s σ H x y v u Q I rx ry h
  obtain ⟨l, b, xs, zs, rfl, rfl, hH, hB, hz, q⟩ := h
  cases rx
  cases ry
  obtain ⟨z, its, n, r, hl, e⟩ := I.lstM hH
  obtain ⟨z2, its2, n2, r2, hl2, e2⟩ := I.lstM hB
  refine PySem.P.add_list e e2 ?_ (by rw [List.size_toArray, List.size_toArray]; omega)
  have ea : its.toArray ++ its2.toArray = (its ++ its2).toArray := by simp
  rw [ea]
  exact ⟨.ref _, _, I.lnew (t' := s.toks) (r.append r2) (by rw [List.length_append]; omega), rfl, q _ I.fresh⟩
def rRep : R2 := fun x y H Q => ∃ l k xs, x = .ref l ∧ y = .int k ∧ H l = some (.lst xs) ∧ -(2 ^ 63) ≤ k ∧ k < 2 ^ 63 ∧ xs.length * k.toNat ≤ sizeLine ∧
  ∀ p, H p = none → Q (.ref p) (upd H p (.lst (List.replicate k.toNat xs).flatten))
theorem len_rep {α : Type} (xs : List α) (k : Nat) : (List.replicate k xs).flatten.length = k * xs.length := by
  induction k with
  | zero => simp
  | succ k ih => rw [List.replicate_succ, List.flatten_cons, List.length_append, ih, Nat.succ_mul, Nat.add_comm]
theorem op_rep : OpR X (binaryOp .Mult) rRep := by
  intro pins s σ H x y v u Q I rx ry h
  obtain ⟨l, k, xs, rfl, rfl, hH, h1, h2, hz, q⟩ := h
  cases rx
  obtain ⟨t, rfl⟩ := ry
  obtain ⟨z, its, n, r, hl, e⟩ := I.lstM hH
  have hlen : its.toArray.size * k.toNat ≤ sizeLine := by rw [List.size_toArray, ← hl]; exact hz
  have hcap : ¬ its.toArray.size * k.toNat > (2 ^ 63 - 1) / 8 := by
    have : (sizeLine : Nat) ≤ (2 ^ 63 - 1) / 8 := by decide
    omega
  have hfit : ¬ (!Builtin.List.listFitsIndex k) = true := by
    rw [fitsIndex_both h1 h2]
    exact Bool.false_ne_true
  have hlong : ¬ Builtin.List.listTooLong (its.toArray.size * k.toNat) = true := by
    rw [notLongL hlen]
    exact Bool.false_ne_true
  have hnew : List.foldl (fun x1 x2 => x1 ++ x2) #[] (List.replicate (if its.toArray.isEmpty = true then 0 else k.toNat) its.toArray) = (List.replicate k.toNat its).flatten.toArray := by
    have f0 : ∀ m : Nat, List.foldl (fun x1 x2 => x1 ++ x2) #[] (List.replicate m its.toArray) = (List.replicate m its).flatten.toArray := fun m => by
      have := foldl_rep its m []
      rw [List.nil_append] at this
      exact this
    rw [f0]
    cases its with
    | nil => simp
    | cons a r' => rw [if_neg (by simp)]
  refine wpAny_binaryOp_repeat_ref (T := "list") (U := "int") (by decide) ⟨_, e, rfl⟩ (fun s' => typeIs_int s' k t) noFill_list_mul F.fills_int_mul F.slot_int_rmul repeat_list F.slot_int_index.lookup
    (call_meets F.slot_int_rmul (typeIs_int s k t) F.entry_int_rmul (F.args_int_rmul_2 _ _) (int___rmul___int_list k t l its.toArray n)
      ⟨e, rfl, ⟨_, e, rfl⟩, call_meets F.slot_list_mul ⟨_, e, rfl⟩ F.entry_list_mul (F.args_list_mul_2 _ _) (AutoListH.list___mul___list_int_3 l its.toArray n k t hfit hcap hlong) ⟨e, ?_⟩⟩)
  rw [hnew]
  exact ⟨.ref _, _, I.lnew (t' := s.toks) (r.rep k.toNat) (by rw [len_rep, Nat.mul_comm]; exact hz), rfl, q _ I.fresh⟩
end
section
variable {prog : Program} {w : World} {A : Around} {E : Value → Shared → Prop} {s : Shared}
end
section
variable {X : Cx}
end
end L2
namespace Att
open PySem PySem.W PySem.Calls PyProof.Rows
theorem ints_of_wellAll {P : Params} {h : Heap} : ∀ (ns : List Int) (vs : List Value), WellAll P h vs (ns.map WData.int) → IntsAre vs ns := by
  intro ns
  induction ns with
  | nil =>
    intro vs w
    rw [List.map_nil] at w
    cases w
    exact .nil
  | cons n ns ih =>
    intro vs w
    rw [List.map_cons] at w
    cases w with
    | cons a b =>
      cases a
      exact .cons _ _ (ih _ b)
theorem script_of {l : OpenLaw} {n : Nat} (hn : l.most = some n) {P : Params} {h : Heap} {args : List WData} {vals : List Value}
    (hpre : l.row.toRowW.claim.pre args = true) (hwl : WellAll P h vals args) :
    ∃ a vs ns, vals = [Value.ref a] ∧ args = [WData.list (ns.map WData.int)] ∧ h.get? a = some { cls := .type "list", data := .seq vs.toArray } ∧ IntsAre vs ns ∧ ns.length ≤ n := by
  have hsh : WShape.hasAll [] args [.list .int] = true := (pre_splitW hpre).1
  have hc : l.pre.holds [] { args := args } = true := (pre_splitW hpre).2
  obtain ⟨d, r, rfl, h1, h2⟩ := hasAllW_cons hsh
  obtain rfl := hasAllW_nil h2
  obtain ⟨xs, rfl, h3⟩ := hasW_list h1
  obtain ⟨ns, rfl⟩ := items_int h3
  have hlen : ns.length ≤ n := by
    unfold OpenLaw.pre at hc
    have h4 : (WTm.not (.lt (.lit (.int (n : Int))) (.len (.arg 0)))).holds [] { args := [.list (ns.map .int)] } = true := by
      have h4 := (holds_andW hc).1
      rw [hn] at h4
      exact h4
    have h5 := condW_of h4 (w_not (w_lt w_lit (w_len_list (w_arg rfl))))
    rw [List.length_map] at h5
    refine Nat.le_of_not_lt fun q => ?_
    have q' : (n : Int) < ((ns.length : Nat) : Int) := by omega
    first
      | (rw [decide_eq_true q'] at h5; exact absurd h5 (by decide))
      | (simp at h5; omega)
  cases hwl with
  | cons w1 w2 =>
    cases w2
    cases w1 with
    | list ho hall => exact ⟨_, _, ns, rfl, rfl, ho, ints_of_wellAll ns _ hall, hlen⟩
theorem post_true (l : OpenLaw) (args : List WData) : l.row.toRowW.claim.post args (.bool true) args = true :=
  postW_of (r := l.row.toRowW) (X := (true == true))
    (show WShape.has [] (.bool true) .bool = true by first | rfl | decide | simp [WShape.has, WShape.arms, WShape.armsAll])
    (show (WTm.eq .res (.lit (.bool true))).value [] { args := args, res := some (.bool true), after := args } = some (.bool (true == true)) from w_eq_bool (w_res rfl) w_lit) rfl
theorem attach_call {l : OpenLaw} {n : Nat} {q : Program} {loose : List Str} {XP : (Str → Option Value) → Heap → Prop} {YP : World → Heap → Prop} {d : DefRec}
    (hn : l.most = some n) (hdf : d.params.defaults = [])
    (call : ∀ (w : World) (s₀ s₁ : Shared) (mg mb : Str → Option Value) (fa : Addr) (o : Obj) (pm cd doc : Value) (a : Addr) (vs : List Value) (ns : List Int),
      Ground q loose [] XP w s₀ mg mb s₁.heap → YP w s₁.heap →
      s₁.heap.get? fa = some o → o.data = .func (docDef d.name d.params d.body d.scope pm cd doc) → s₁.heap.CodeRec cd d.name → mg d.name = some (.ref fa) →
      s₁.heap.get? a = some { cls := .type "list", data := .seq vs.toArray } → IntsAre vs ns → ns.length ≤ n → s₁.gens = #[] →
      codeAny (model l.prog w) callerA (.call (.ref fa) ⟨[.ref a], []⟩) (fun r s' => r = .ok (.ret (.bool true)) ∧ OldK s₁.heap s'.heap ∧ s'.os = s₁.os ∧ AllBare s'.gens) s₁) :
    WalkO q loose XP YP l.row.toRowW d [] (fun f vs => PySem.call f vs) := by
  intro w s₀ s₁ mg mb G Y fa o pm cd doc dV kV ho hd hcd hD hmg hg args vals as hpre hlay hrd hwl hlo
  obtain rfl : dV = .none := Dflts.none hD hdf
  obtain rfl : kV = .none := Dflts.noKw hD
  obtain ⟨a, vs, ns, rfl, rfl, hobj, hints, hlen⟩ := script_of hn hpre hwl
  refine enter_call (codeAny_mono (call w s₀ s₁ mg mb fa o pm cd doc a vs ns G Y ho (fd_plain hd) hcd hmg hobj hints hlen hg) fun r s' hq => ?_)
  obtain ⟨rfl, h2, h3, h4⟩ := hq
  exact ⟨.inl ⟨.bool true, .bool true, [], rfl, fun _ => rfl, .bool true, post_true l _, fun _ => ⟨List.Pairwise.nil, fun _ hm => (nomatch hm)⟩⟩, h2, h3, h4⟩
section
variable {prog : Program} {w : World} {A : Around} {E : Value → Shared → Prop} {s : Shared} {K : Frag}
end
end Att
namespace L2
open PySem PySem.Spec PyProof.Rows
theorem vals_ints : ∀ {vs : List Value} {ns : List Int}, IntsAre vs ns → Vals (ns.map V.int) vs
  | _, _, .nil => .nil
  | _, _, .cons n t h => .cons ⟨t, rfl⟩ (vals_ints h)
def Only (H : Hp) : Prop := ∀ b, H b = none ∨ ∃ o xs, H b = some (.frz o (.lst xs))
theorem law_call {P : Program} {w : World} {K : PySem.W.Frag} {mg mb : Str → Option Value} {CX : CXT} {k : Nat} {fa a : Addr} {fd : FuncData} {x : Str} {sp : Sp} {s₁ : Shared} {vs : List Value} {ns : List Int}
    (KX : K.In s₁.heap) (hns : s₁.heap.Ns mainGlobals mg) (hb : s₁.heap.Ns builtinsNs mb) (hbb : ∀ x : Str, x ≠ "__name__" → mb x = bootBuiltins x) (hlim : s₁.heap.NoLimit) (hg : s₁.gens = #[])
    (ha : s₁.heap.get? a = some { cls := .type "list", data := .seq vs.toArray }) (hi : IntsAre vs ns) (hl : ns.length ≤ sizeLine) (hr : Room k callerA)
    (F : ∀ base : Heap, K.In base → base.Ns mainGlobals mg → FnOk P w K mg base CX k fa fd [x] sp) (hbind : ∀ (s : Shared) (u : Value), BindsTo s fd ⟨[u], []⟩ [(x, u)])
    (hsp : ∀ H : Hp, Only H → SqL K H a (ns.map V.int) → sp [.ref a] H (fun v _ => v = .bl true) fun _ _ _ => False)
    (hCX : ∀ H e s', CX [] H s₁ (fun _ _ _ => False) e s' → False) :
    codeAny (model P w) callerA (.call (.ref fa) ⟨[.ref a], []⟩) (fun r s' => r = .ok (.ret (.bool true)) ∧ OldK s₁.heap s'.heap ∧ s'.os = s₁.os ∧ AllBare s'.gens) s₁ := by
  have rv := vals_ints hi
  have lenV := hi.length
  have core : ∀ H : Hp, Only H → SqL K H a (ns.map V.int) → HOk P w H s₁.heap → (∀ b, H b ≠ none → b = a) → (H a ≠ none → K.lookup a = none) →
      codeAny (model P w) callerA (.call (.ref fa) ⟨[.ref a], []⟩) (fun r s' => r = .ok (.ret (.bool true)) ∧ OldK s₁.heap s'.heap ∧ s'.os = s₁.os ∧ AllBare s'.gens) s₁ := by
    intro H hO hS hok hA hK
    have base_of : ∀ {b : Addr} {o : Obj}, s₁.heap.get? b = some o → H b = none → (hidT s₁.heap H).get? b = some o := fun e n => hidT_get e n
    have noA : ∀ {b : Addr} {o : Obj} {es : Array DictEntry} {ep : Nat}, s₁.heap.get? b = some o → o.data = .dict es ep → H b = none := fun {b o es ep} e d => by
      cases q : H b with
      | none => rfl
      | some u =>
        have e' : b = a := hA b (by rw [q]; simp)
        subst e'
        rw [ha] at e; cases e
        have d' : Data.seq vs.toArray _ = Data.dict es ep := d
        cases d'
    have nsK : ∀ {b : Addr} {m : Str → Option Value}, s₁.heap.Ns b m → (hidT s₁.heap H).Ns b m := fun {b m} ⟨o, es, ep, e, d, r⟩ => ⟨o, es, ep, base_of e (noA e d), d, r⟩
    have hKb : K.In (hidT s₁.heap H) := fun b o e => base_of (KX b o e) (by
      cases q : H b with
      | none => rfl
      | some u =>
        have e' : b = a := hA b (by rw [q]; simp)
        subst e'
        rw [hK (by rw [q]; simp)] at e; cases e)
    have hM : Mod K mg (hidT s₁.heap H) := ⟨hKb, nsK hns, ⟨mb, nsK hb, hbb⟩, let ⟨mc, h1, h2⟩ := hlim; ⟨mc, nsK h1, h2⟩⟩
    have e0 : Env0 P w K mg (hidT s₁.heap H) callerA [] s₁ H := ⟨rfl, hM, fun b o e => of_hidT e, Nat.le_of_eq (hidT_size _ _), trivial, fun b hb => absurd (show b ∈ ([] : List Addr) from hb) (by simp), hok, .of_eq hg⟩
    refine codeAny_mono ((F _ hKb (nsK hns)).run callerA [] s₁ H ⟨[.ref a], []⟩ [.ref a] [.ref a] _ _ hr e0 (hbind s₁ (.ref a)) (.cons rfl .nil) (hsp H hO hS)) fun r s' h => ?_
    cases r with
    | error e => exact (hCX H e s' h).elim
    | ok fl =>
      cases fl with
      | next => exact False.elim h
      | brk => exact False.elim h
      | cont => exact False.elim h
      | ret u =>
        obtain ⟨v, H', os, bare, un, hok', r', q⟩ := h
        have q' : v = .bl true := q
        subst q'
        obtain rfl : u = Value.bool true := r'
        refine ⟨rfl, OldK.of_keep fun b o e => ?_, os, bare⟩
        cases q : H b with
        | none => exact un.keep b o e q (by intro z; exact absurd (show b ∈ ([] : List Addr) from z) (by simp)) (by simp)
        | some u =>
          rcases hO b with z | ⟨ob, xs, z⟩
          · rw [q] at z; cases z
          · have z2 := un.frzs b ob _ z
            obtain ⟨e1, _⟩ := hok b _ z
            obtain ⟨e2, _⟩ := hok' b _ z2
            rw [e] at e1; cases e1
            exact e2
  cases hk : K.lookup a with
  | some o =>
    have e := KX a o hk
    rw [ha] at e
    cases e
    refine core (fun _ => none) (fun _ => .inl rfl) (.inr ⟨_, vs.toArray, _, hk, rfl, rfl, rfl, by rw [List.size_toArray, lenV]; exact hl, by simpa using rv⟩) (fun b u z => by have z' : (none : Option HO) = some u := z; cases z') (fun b z => absurd rfl z) fun z => absurd rfl z
  | none =>
    refine core (fun b => if b = a then some (.frz { cls := .type "list", data := .seq vs.toArray } (.lst (ns.map V.int))) else none) (fun b => ?_) (.inl (.inr ⟨{ cls := .type "list", data := .seq vs.toArray }, if_pos rfl⟩)) (fun b u z => ?_) (fun b z => ?_) fun _ => hk
    · by_cases hb : b = a
      · exact .inr ⟨_, _, if_pos hb⟩
      · exact .inl (if_neg hb)
    · by_cases hb : b = a
      · have z' := (if_pos hb).symm.trans z
        cases z'
        subst hb
        exact ⟨ha, by rw [List.length_map]; exact hl, vs, _, rv, ha⟩
      · have z' := (if_neg hb).symm.trans z
        cases z'
    · by_cases hb : b = a
      · exact hb
      · exact absurd (if_neg hb) z
end L2
namespace L2
open PySem PySem.Spec PyProof.Rows
theorem walk_of {l : PySem.W.OpenLaw} {n k : Nat} {q : Program} {loose : List Str} {XP : (Str → Option Value) → Heap → Prop} {YP : World → Heap → Prop} {d : DefRec} {K : Params → PySem.W.Frag} {CX : World → CXT} {sp : World → Sp} {x : Str}
    (hn : l.most = some n) (hn2 : n ≤ sizeLine) (hdf : d.params.defaults = []) (hr : Room k callerA)
    (hY : ∀ (w : World) (h : Heap), YP w h → (K w.params).In h)
    (F : ∀ (w : World) (mg : Str → Option Value) (fa : Addr) (h : Heap), (K w.params).In h → h.Ns mainGlobals mg → mg d.name = some (.ref fa) →
      ∃ fd : FuncData, (∀ (s : Shared) (u : Value), BindsTo s fd ⟨[u], []⟩ [(x, u)]) ∧
        ∀ base : Heap, (K w.params).In base → base.Ns mainGlobals mg → FnOk l.prog w (K w.params) mg base (CX w) k fa fd [x] (sp w))
    (hsp : ∀ (w : World) (H : Hp) (a : Addr) (ns : List Int), ns.length ≤ n → Only H → SqL (K w.params) H a (ns.map V.int) → sp w [.ref a] H (fun v _ => v = .bl true) fun _ _ _ => False)
    (hCX : ∀ (w : World) (H : Hp) (s : Shared) (e : Value) (s' : Shared), CX w [] H s (fun _ _ _ => False) e s' → False) :
    PySem.W.WalkO q loose XP YP l.row.toRowW d [] (fun f vs => PySem.call f vs) := by
  refine Att.attach_call hn hdf fun w s₀ s₁ mg mb fa o pm cd doc a vs ns G Y ho hd hcd hmg hobj hints hlen hg => ?_
  have KX := hY w _ Y
  obtain ⟨fd, hb, hF⟩ := F w mg fa _ KX G.T.g hmg
  exact law_call KX G.T.g G.T.b G.T.builtins G.T.nolimit hg hobj hints (Nat.le_trans hlen hn2) hr hF hb (fun H hO hS => hsp w H a ns hlen hO hS) fun H e s' => hCX w H s₁ e s'
end L2
/- THE LAST THEOREM (shape; LID, My.* are yours):
   My.Adr: a structure of the addresses that your layer names (classes, functions); My.Txt K t: a structure (Prop) of the equations over K;
   My.txt_mk : {K} {implicit addresses ..} (e1 : nsIn K mainGlobals "law" = some (some (.ref f))) (e2 : K.lookup f = some ⟨oc, od, .func (fnOf "law" "law" params body scope dV kV doc pm an cdv ct), sl⟩) (e3 : codeIn K cdv "law" = true) .. : ∃ t, My.Txt K t
set_option maxRecDepth 100000 in
set_option maxHeartbeats 0 in
theorem PySem.Challenge.cw_LID_holds : PySem.Challenge.rw_LID.Holds := by
  w_on; o_law; k_head; (case hw => w_witness2)
  k_fill
  refine L2.walk_of (l := PySem.Challenge.rw_LID) (n := 63) (k := 40) (x := "script") (CX := fun w => ..) (sp := fun _ => My.sp_law) rfl (by decide) rfl ⟨rfl, by decide, by decide⟩ (fun w h Y => PySem.W.kIn_of Y) ?F ?S ?C
  case F =>
    intro w mg fa h KX G hmg
    have T : ∃ t, My.Txt (L2.KOf KX) t := by
      dsimp only [L2.KOf]                          -- K must stand as «<heap const> w.params» for k_is
      refine' My.txt_mk ?e1 ?e2 ?e3 ..
      (case e1 => PySem.W.k_is)                    -- in the order: a name -> its address -> its object -> its parts
      (case e2 => PySem.W.k_is)
      ..
    obtain ⟨t, T⟩ := T
    have e0 := hmg.symm.trans (PySem.W.mg_of KX G T.law)
    cases e0                                       -- fa is the law's own address
    exact ⟨_, fun s u => .of_eq rfl, fun base kb nb => My.law_fn T kb nb⟩     -- if «.of_eq rfl» comes too early: refine' ⟨_, ?b, fun base kb nb => My.law_fn T kb nb⟩; exact fun s u => .of_eq rfl
  case S => exact fun w H a ns hl hO hS => ..
  case C => exact ..
(the tactic k_is has no namespace: write k_is) -/
namespace L2
open PySem PySem.Spec PyProof.Rows
def defArgs (s : Stmt) : Arguments := match s with
  | .FunctionDef _ a _ _ _ _ _ _ _ _ => a
  | _ => { posonlyargs := [], args := [], vararg := none, kwonlyargs := [], kw_defaults := [], kwarg := none, defaults := [] }
def defBody (s : Stmt) : List Stmt := match s with
  | .FunctionDef _ _ b _ _ _ _ _ _ _ => b
  | _ => []
def defScope (s : Stmt) : Scope := match s with
  | .FunctionDef _ _ _ _ _ _ sc _ _ _ => sc
  | _ => { kind := .function, names := [], isGenerator := false, isCoroutine := false }
abbrev CX0 : CXT := fun _ _ _ _ _ _ => False
abbrev E0 : XK := fun _ _ _ => False
structure Fun (K : PySem.W.Frag) (x qual : Str) (st : Stmt) (f : Addr) (fd : FuncData) : Prop where
  ex : ∃ (oc : Value) (od : Option Addr) (kV doc pm : Value) (an : Option Addr) (cdv ct : Value) (osl : Array (Option Value)),
    fd = PySem.W.fnOf x qual (defArgs st) (defBody st) (defScope st) .none kV doc pm an cdv ct ∧ K.lookup f = some ⟨oc, od, .func fd, osl⟩ ∧ PySem.W.codeIn K cdv qual = true
  kp : PySem.W.keepIn K (.ref f) = true
section
variable {P : Program} {w : World} {K : PySem.W.Frag} {mg : Str → Option Value} {base : Heap}
theorem Fun.ok {x qual : Str} {st : Stmt} {f : Addr} {fd : FuncData} {N ps : List Str} {k : Nat} {sp : Sp} (F : Fun K x qual st f fd) (S : FnScope N ps (defScope st)) (len : ∀ vs H Q E, sp vs H Q E → vs.length = ps.length)
    (hbody : ∀ (cdv : Value) (A : Around) (outer : List Env) (s : Shared) (H : Hp) (vs : List V) (Q : VK) (E : XK), Room k (A.deeper (envOfC qual (defScope st) s.heap.objs.size f cdv)) → sp vs H Q E →
      ∃ t, PSs (cxOf CX0 P w K mg base N qual (defScope st) f cdv A outer s H E).nox (defBody st) t ∧ t { nx := fun _ H' => Q .non H', rt := Q } (start N vs) H) : FnOk P w K mg base CX0 (k + 1) f fd ps sp := by
  obtain ⟨oc, od, kV, doc, pm, an, cdv, ct, osl, rfl, lk, hcd⟩ := F.ex
  refine fn_of lk hcd S len fun A outer s H vs Q E hr hsp => ?_
  obtain ⟨t, h, q⟩ := hbody cdv A outer s H vs Q E hr hsp
  exact ⟨t, h.nox, q⟩
theorem Fun.binds {x qual : Str} {st : Stmt} {f : Addr} {fd : FuncData} {ps : List Str} (F : Fun K x qual st f fd)
    (h : ∀ (kV doc pm : Value) (an : Option Addr) (cdv ct : Value) (us : List Value), us.length = ps.length → bindArgs (PySem.W.fnOf x qual (defArgs st) (defBody st) (defScope st) .none kV doc pm an cdv ct) ⟨us, []⟩ = pure (ps.zip us)) : Binds K fd ps [] := by
  obtain ⟨oc, od, kV, doc, pm, an, cdv, ct, osl, rfl, lk, hcd⟩ := F.ex
  exact .all (h kV doc pm an cdv ct)
theorem fun_mk {x qual : Str} {st : Stmt} {f : Addr} {oc : Value} {od an : Option Addr} {osl : Array (Option Value)} {kV doc pm cdv ct : Value} (l : K.lookup f = some ⟨oc, od, .func (PySem.W.fnOf x qual (defArgs st) (defBody st) (defScope st) .none kV doc pm an cdv ct), osl⟩)
    (c : PySem.W.codeIn K cdv qual = true) (k : PySem.W.keepIn K (.ref f) = true) : Fun K x qual st f (PySem.W.fnOf x qual (defArgs st) (defBody st) (defScope st) .none kV doc pm an cdv ct) := ⟨⟨oc, od, kV, doc, pm, an, cdv, ct, osl, rfl, l, c⟩, k⟩
end
theorem small1000 {n : Nat} (h : n ≤ 1000) : n < sizeLine := Nat.lt_of_le_of_lt h (by decide)
section
variable {X : Cx}
theorem pv (i : Nat) {x : Str} {pos : Pos} (hN : X.N[i]? = some x := by rfl) (hv : Vis X.env.scope x := by first | exact Or.inl rfl | exact Or.inr (Or.inl rfl) | exact Or.inr (Or.inr rfl)) (hd : (x == ("__debug__" : Str)) = false := by decide)
    (hcd : (x == ("__classdict__" : Str)) = false := by decide) : PE X (.Name x pos) (tVar i) := pe_var hN hv hd hcd
end
def Same (H H' : Hp) : Prop := ∀ b o, H b = some o → H' b = some o
theorem Same.refl (H : Hp) : Same H H := fun _ _ h => h
theorem Same.trans {H H1 H2 : Hp} (a : Same H H1) (b : Same H1 H2) : Same H H2 := fun c o h => b c o (a c o h)
theorem Same.free {H H' : Hp} (e : Same H H') {l : Addr} (h : H' l = Option.none) : H l = Option.none := by
  cases q : H l with
  | none => rfl
  | some o =>
    rw [e l o q] at h
    cases h
theorem Same.seq {K : PySem.W.Frag} {H H' : Hp} {a : Addr} {xs : List V} (e : Same H H') (h : SqL K H a xs) : SqL K H' a xs := by
  rcases h with (h | ⟨o, h⟩) | h
  · exact .inl (.inl (e _ _ h))
  · exact .inl (.inr ⟨o, e _ _ h⟩)
  · exact .inr h
end L2
namespace Wv
open PySem L2
theorem bt_int : bootBuiltins "int" = some (.type "int") := by decide +kernel
theorem bt_bool : bootBuiltins "bool" = some (.type "bool") := by decide +kernel
theorem bt_tuple : bootBuiltins "tuple" = some (.type "tuple") := by decide +kernel
theorem bt_list : bootBuiltins "list" = some (.type "list") := by decide +kernel
theorem bt_isinstance : bootBuiltins "isinstance" = some (.builtin "isinstance") := by decide +kernel
theorem bt_len : bootBuiltins "len" = some (.builtin "len") := by decide +kernel
def cellM (ns : List Int) (k : Int) : Int := ns.getD k.toNat 0
def mixM (c p m : Int) : Int := c * 48271 % p % m
def sizeM (c : Int) : Int := if mixM c 9901 8 = 3 then 1 + mixM c 9973 16 else 1 + mixM c 9973 6
theorem mixM_lo {c p m : Int} (h : 0 < m) : 0 ≤ mixM c p m := Int.emod_nonneg _ (by omega)
theorem mixM_hi {c p m : Int} (h : 0 < m) : mixM c p m < m := Int.emod_lt_of_pos _ h
theorem sizeM_lo (c : Int) : 1 ≤ sizeM c := by
  unfold sizeM
  have h1 := mixM_lo (c := c) (p := 9973) (m := 16) (by decide)
  have h2 := mixM_lo (c := c) (p := 9973) (m := 6) (by decide)
  split <;> omega
theorem sizeM_hi (c : Int) : sizeM c ≤ 16 := by
  unfold sizeM
  have h1 := mixM_hi (c := c) (p := 9973) (m := 16) (by decide)
  have h2 := mixM_hi (c := c) (p := 9973) (m := 6) (by decide)
  split <;> omega
def seedM (ns : List Int) (at_ r c : Int) : Int := cellM ns (at_ + 2 + (3 * r + c) % 12) + 31 * r * r + 57 * c * c
def bitM (ns : List Int) (at_ way r c : Int) : Int :=
  if way = 2 then (if mixM (seedM ns at_ r c) 9931 6 = 0 then 1 else 0)
  else if way = 1 then (if 0 < (r + c + mixM (seedM ns at_ r c) 9941 12 / 11) % 3 then 1 else 0)
  else mixM (seedM ns at_ r c) 9949 2
theorem bitM_bit (ns : List Int) (at_ way r c : Int) : bitM ns at_ way r c = 0 ∨ bitM ns at_ way r c = 1 := by
  unfold bitM
  have h1 := mixM_lo (c := seedM ns at_ r c) (p := 9949) (m := 2) (by decide)
  have h2 := mixM_hi (c := seedM ns at_ r c) (p := 9949) (m := 2) (by decide)
  split
  · split <;> simp
  · split
    · split <;> simp
    · omega
def wayM (ns : List Int) (at_ : Int) : Int := mixM (cellM ns at_ + 3 * cellM ns (at_ + 1)) 9871 3
def rowM (ns : List Int) (at_ r : Int) : List Int := (List.range (sizeM (cellM ns (at_ + 1))).toNat).map fun c => bitM ns at_ (wayM ns at_) r (c : Nat)
def clothM (ns : List Int) (at_ : Int) : List (List Int) := (List.range (sizeM (cellM ns at_)).toNat).map fun r => rowM ns at_ (r : Nat)
def Rows (H : Hp) (as : List Addr) (rows : List (List Int)) : Prop := Paired (fun a (r : List Int) => H a = some (.tup (r.map V.int))) as rows
def Cl (H : Hp) (p : Addr) (rows : List (List Int)) : Prop := ∃ as : List Addr, H p = some (.tup (as.map V.ref)) ∧ Rows H as rows
theorem Rows.same {H H' : Hp} {as : List Addr} {rows : List (List Int)} (h : Rows H as rows) (s : Same H H') : Rows H' as rows := Paired.mapP h fun _ _ e => s _ _ e
theorem Cl.same {H H' : Hp} {p : Addr} {rows : List (List Int)} (h : Cl H p rows) (s : Same H H') : Cl H' p rows := by
  obtain ⟨as, e, r⟩ := h
  exact ⟨as, s _ _ e, Rows.same r s⟩
theorem Paired.at {α β : Type} {F : α → β → Prop} : ∀ {l : List α} {l' : List β} {i : Nat} {b : β}, Paired F l l' → l'[i]? = some b → ∃ a, l[i]? = some a ∧ F a b
  | _, _, _, _, .nil, e => by simp at e
  | _, _, 0, _, .cons r _, e => by simp at e; subst e; exact ⟨_, rfl, r⟩
  | _, _, i + 1, b, .cons _ t, e => by
    obtain ⟨u, h1, h2⟩ := Paired.at (i := i) (b := b) t (by simpa using e)
    exact ⟨u, by simpa using h1, h2⟩
theorem Cl.row {H : Hp} {p : Addr} {rows : List (List Int)} {j : Nat} {row : List Int} (h : Cl H p rows) (e : rows[j]? = some row) : ∃ (as : List Addr) (q : Addr), H p = some (.tup (as.map V.ref)) ∧ as.length = rows.length ∧ (as.map V.ref)[j]? = some (.ref q) ∧ H q = some (.tup (row.map V.int)) := by
  obtain ⟨as, h1, h2⟩ := h
  obtain ⟨q, h3, h4⟩ := Paired.at h2 e
  exact ⟨as, q, h1, PySem.Paired.length h2, by rw [List.getElem?_map, h3]; rfl, h4⟩
theorem Cl.len {H : Hp} {p : Addr} {rows : List (List Int)} (h : Cl H p rows) : ∃ (as : List Addr), H p = some (.tup (as.map V.ref)) ∧ (as.map V.ref).length = rows.length := by
  obtain ⟨as, h1, h2⟩ := h
  exact ⟨as, h1, by rw [List.length_map]; exact PySem.Paired.length h2⟩
theorem same_new {H : Hp} {p : Addr} {o : HO} (h : H p = none) : Same H (upd H p o) := fun b u e => by
  rw [upd_ne (ne_of_none e h)]
  exact e
theorem same_upd {H H2 : Hp} {p : Addr} {o : HO} (s : Same H H2) (h : H p = none) : Same H (upd H2 p o) := fun b u e => by
  rw [upd_ne (ne_of_none e h)]
  exact s b u e
theorem atI_at {α : Type} {xs : List α} {i : Int} {v : α} (h0 : 0 ≤ i) (h : xs[i.toNat]? = some v) : atI xs i = some v := by
  have e := atI_nat h
  rw [Int.toNat_of_nonneg h0] at e
  exact e
theorem bit0 {ns : List Int} {k way r c : Int} (h1 : ¬ way = 1) (h2 : ¬ way = 2) :
    mixM (cellM ns (k + 2 + (3 * (0 + r) + (0 + c)) % 12) + 31 * (0 + r) * (0 + r) + 57 * (0 + c) * (0 + c)) 9949 2 = bitM ns k way r c := by
  unfold bitM seedM
  rw [if_neg h2, if_neg h1]
  simp only [Int.zero_add]
theorem bit1 {ns : List Int} {k way r c : Int} (h1 : way = 1) :
    (if decide (0 < ((0 + r) + (0 + c) + mixM (cellM ns (k + 2 + (3 * (0 + r) + (0 + c)) % 12) + 31 * (0 + r) * (0 + r) + 57 * (0 + c) * (0 + c)) 9941 12 / 11) % 3) = true then (1 : Int) else 0) = bitM ns k way r c := by
  subst h1
  unfold bitM seedM
  rw [if_neg (show ¬ (1 : Int) = 2 by decide), if_pos (show (1 : Int) = 1 from rfl)]
  simp only [Int.zero_add, decide_eq_true_eq]
theorem bit2 {ns : List Int} {k way r c : Int} (h2 : way = 2) :
    (if decide (V.int (mixM (cellM ns (k + 2 + (3 * (0 + r) + (0 + c)) % 12) + 31 * (0 + r) * (0 + r) + 57 * (0 + c) * (0 + c)) 9931 6) = V.int 0) = true then (1 : Int) else 0) = bitM ns k way r c := by
  subst h2
  unfold bitM seedM
  rw [if_pos (show (2 : Int) = 2 from rfl)]
  simp only [Int.zero_add, decide_eq_true_eq, V.int.injEq]
def relabelS (scope sc0 : Scope) : Scope :=
  { scope with names := scope.names.map fun (n, k) => if (k == .free && sc0.kind == .function && sc0.names.lookup n == some .cell) then (n, .cell) else (n, k) }
theorem bt_set : bootBuiltins "set" = some (.type "set") := by decide +kernel
theorem bt_all : bootBuiltins "all" = some (.builtin "all") := by decide +kernel
structure DefOk (K : PySem.W.Frag) (mg : Str → Option Value) (x : Str) (st : Stmt) (ps : List Str) (f : Addr) (fd : FuncData) : Prop where
  F : Fun K x x st f fd
  b : Binds K fd ps []
  m : mg x = some (.ref f)
end Wv
namespace L2
open PySem PySem.Spec PyProof.Rows
def closL (env : Env) : List (Str × NameKind) → List (Str × Addr) → List (Str × Addr)
  | [], acc => acc
  | (n, k) :: r, acc => if k == .free then closL env r ((n, (env.cells.lookup n).getD 0) :: acc) else closL env r acc
theorem forIn_closL {env : Env} (f : Str × NameKind → List (Str × Addr) → Sem (ForInStep (List (Str × Addr))))
    (hf : ∀ name kind cs, f (name, kind) cs = if kind == .free then (do let a ← cellOf env name; pure (.yield ((name, a) :: cs))) else pure (.yield cs)) :
    ∀ (names : List (Str × NameKind)) (acc : List (Str × Addr)), (∀ y ∈ names, y.2 = .free → ∃ c, env.cells.lookup y.1 = some c) → forIn names acc f = pure (closL env names acc)
  | [], acc, _ => by
    rw [List.forIn_nil]
    rfl
  | (name, kind) :: r, acc, h => by
    rw [List.forIn_cons, hf]
    unfold closL
    by_cases hk : kind = .free
    · obtain ⟨c, hc⟩ := h (name, kind) List.mem_cons_self hk
      have hb : (kind == NameKind.free) = true := by rw [hk]; rfl
      rw [if_pos hb, if_pos hb]
      have hc' : env.cells.lookup name = some c := hc
      have e : cellOf env name = pure c := by unfold cellOf; rw [hc']
      rw [e, hc', pure_bind, pure_bind]
      exact forIn_closL f hf r _ fun y hy => h y (List.mem_cons_of_mem _ hy)
    · have hb : ¬ (kind == NameKind.free) = true := by simpa using hk
      rw [if_neg hb, if_neg hb, pure_bind]
      exact forIn_closL f hf r _ fun y hy => h y (List.mem_cons_of_mem _ hy)
theorem closureFor_eq {scope : Scope} {env : Env} (h : ∀ y ∈ scope.names, y.2 = .free → ∃ c, env.cells.lookup y.1 = some c) : closureFor scope env = pure (closL env scope.names []) := by
  show (do let s ← forIn scope.names ([] : List (Str × Addr)) _; pure s) = _
  rw [forIn_closL (env := env) _ (fun name kind cs => by cases hk : kind == NameKind.free <;> simp [hk]) _ _ h]
  exact pure_bind _ _
theorem lk_cons {α : Type} {n x : Str} {v c : α} {l : List (Str × α)} (h : ((n, v) :: l).lookup x = some c) : (x = n ∧ v = c) ∨ l.lookup x = some c := by
  rw [List.lookup_cons] at h
  cases hb : x == n with
  | true =>
    rw [hb] at h
    exact .inl ⟨beq_iff_eq.mp hb, Option.some.inj h⟩
  | false =>
    rw [hb] at h
    exact .inr h
theorem lk_some {α : Type} {n x : Str} {v : α} {l : List (Str × α)} (h : x = n ∨ (l.lookup x).isSome = true) : (((n, v) :: l).lookup x).isSome = true := by
  rw [List.lookup_cons]
  cases hb : x == n with
  | true => rfl
  | false =>
    rcases h with h | h
    · rw [h, beq_self_eq_true] at hb
      cases hb
    · exact h
theorem lk_app {α : Type} {x : Str} {c : α} : ∀ {l l' : List (Str × α)}, (l ++ l').lookup x = some c → l.lookup x = some c ∨ l'.lookup x = some c
  | [], l', h => .inr h
  | (n, v) :: r, l', h => by
    rw [List.cons_append, List.lookup_cons] at h
    rw [List.lookup_cons]
    cases hb : x == n with
    | true =>
      rw [hb] at h
      exact .inl h
    | false =>
      rw [hb] at h
      exact lk_app h
theorem closL_of (env : Env) : ∀ (names : List (Str × NameKind)) (acc : List (Str × Addr)) (x : Str) (c : Addr), (closL env names acc).lookup x = some c →
    acc.lookup x = some c ∨ ((x, NameKind.free) ∈ names ∧ (env.cells.lookup x).getD 0 = c)
  | [], acc, x, c, h => .inl h
  | (n, k) :: r, acc, x, c, h => by
    unfold closL at h
    by_cases hk : (k == NameKind.free) = true
    · rw [if_pos hk] at h
      have ek : k = .free := by simpa using hk
      rcases closL_of env r _ x c h with h | ⟨h1, h2⟩
      · rcases lk_cons h with ⟨rfl, h⟩ | h
        · exact .inr ⟨by rw [ek]; exact List.mem_cons_self, h⟩
        · exact .inl h
      · exact .inr ⟨List.mem_cons_of_mem _ h1, h2⟩
    · rw [if_neg hk] at h
      rcases closL_of env r _ x c h with h | ⟨h1, h2⟩
      · exact .inl h
      · exact .inr ⟨List.mem_cons_of_mem _ h1, h2⟩
theorem closL_has (env : Env) : ∀ (names : List (Str × NameKind)) (acc : List (Str × Addr)) (x : Str), ((x, NameKind.free) ∈ names ∨ (acc.lookup x).isSome = true) → ((closL env names acc).lookup x).isSome = true
  | [], acc, x, h => by
    rcases h with h | h
    · cases h
    · exact h
  | (n, k) :: r, acc, x, h => by
    unfold closL
    by_cases hk : (k == NameKind.free) = true
    · rw [if_pos hk]
      refine closL_has env r _ x ?_
      rcases h with h | h
      · rcases List.mem_cons.mp h with h | h
        · exact .inr (lk_some (.inl (congrArg Prod.fst h)))
        · exact .inl h
      · exact .inr (lk_some (.inr h))
    · rw [if_neg hk]
      refine closL_has env r _ x ?_
      rcases h with h | h
      · rcases List.mem_cons.mp h with h | h
        · cases h
          exact absurd rfl hk
        · exact .inl h
      · exact .inr h
theorem cellsFrom_app : ∀ (names : List (Str × NameKind)) (n : Nat) (acc : List (Str × Addr)), cellsFrom n names acc = cellsFrom n names [] ++ acc
  | [], n, acc => rfl
  | (x, k) :: r, n, acc => by
    unfold cellsFrom
    split
    · rw [cellsFrom_app r (n + 1) ((x, n) :: acc), cellsFrom_app r (n + 1) [(x, n)], List.append_assoc]
      rfl
    · exact cellsFrom_app r n acc
theorem cellsFrom_has : ∀ (names : List (Str × NameKind)) (n : Nat) (acc : List (Str × Addr)) (x : Str), ((x, NameKind.cell) ∈ names ∨ (acc.lookup x).isSome = true) → ((cellsFrom n names acc).lookup x).isSome = true
  | [], n, acc, x, h => by
    rcases h with h | h
    · cases h
    · exact h
  | (y, k) :: r, n, acc, x, h => by
    unfold cellsFrom
    by_cases hk : (k == NameKind.cell) = true
    · rw [if_pos hk]
      refine cellsFrom_has r _ _ x ?_
      rcases h with h | h
      · rcases List.mem_cons.mp h with h | h
        · exact .inr (lk_some (.inl (congrArg Prod.fst h)))
        · exact .inl h
      · exact .inr (lk_some (.inr h))
    · rw [if_neg hk]
      refine cellsFrom_has r _ _ x ?_
      rcases h with h | h
      · rcases List.mem_cons.mp h with h | h
        · cases h
          exact absurd rfl hk
        · exact .inl h
      · exact .inr h
theorem cellsFrom_key : ∀ (names : List (Str × NameKind)) (n : Nat) (acc : List (Str × Addr)) (x : Str) (c : Addr), (cellsFrom n names acc).lookup x = some c → acc.lookup x = some c ∨ (x, NameKind.cell) ∈ names
  | [], n, acc, x, c, h => .inl h
  | (y, k) :: r, n, acc, x, c, h => by
    unfold cellsFrom at h
    by_cases hk : (k == NameKind.cell) = true
    · rw [if_pos hk] at h
      have ek : k = .cell := by simpa using hk
      rcases cellsFrom_key r _ _ x c h with h | h
      · rcases lk_cons h with ⟨rfl, h⟩ | h
        · exact .inr (by rw [ek]; exact List.mem_cons_self)
        · exact .inl h
      · exact .inr (List.mem_cons_of_mem _ h)
    · rw [if_neg hk] at h
      rcases cellsFrom_key r _ _ x c h with h | h
      · exact .inl h
      · exact .inr (List.mem_cons_of_mem _ h)
theorem relabel_of {env : Env} {x : Str} {k : NameKind} : ∀ {names : List (Str × NameKind)},
    (names.map fun (n, k) => if (k == NameKind.free && env.scope.kind == .function && env.kindOf n == some .cell) then (n, NameKind.cell) else (n, k)).lookup x = some k →
    ∃ k0, (x, k0) ∈ names ∧ (k = k0 ∨ (k0 = .free ∧ k = .cell))
  | [], h => by simp at h
  | (n, k1) :: r, h => by
    rw [List.map_cons] at h
    by_cases hc : (k1 == NameKind.free && env.scope.kind == .function && env.kindOf n == some .cell) = true
    · dsimp only at h
      rw [if_pos hc] at h
      have hf : k1 = .free := by
        rw [Bool.and_eq_true, Bool.and_eq_true] at hc
        simpa using hc.1.1
      rcases lk_cons h with ⟨rfl, hk⟩ | h
      · exact ⟨k1, List.mem_cons_self, .inr ⟨hf, hk.symm⟩⟩
      · obtain ⟨k0, h1, h2⟩ := relabel_of h
        exact ⟨k0, List.mem_cons_of_mem _ h1, h2⟩
    · dsimp only at h
      rw [if_neg hc] at h
      rcases lk_cons h with ⟨rfl, hk⟩ | h
      · exact ⟨k1, List.mem_cons_self, .inl hk.symm⟩
      · obtain ⟨k0, h1, h2⟩ := relabel_of h
        exact ⟨k0, List.mem_cons_of_mem _ h1, h2⟩
def compCx (X : Cx) (scope : Scope) (C : Addr) (N' : List Str) (s2 : Shared) (H1 : Hp) (fp : List Addr) : Cx :=
  { X with
    N := N'
    s₀ := s2
    H₀ := H1
    env := compEnvC scope (cellsFrom (C + 1) scope.names (closL X.env scope.names [])) C X.env
    outer := X.stack
    stack := X.stack
    ex := fp
    fn := fun x => scope.names.all fun y => !(y.1 == x && y.2 == .free)
    pn := []
    xe := fun _ _ => False }
def pick (σ : St) : Option Nat → Option V
  | none => none
  | some j => (σ[j]?).getD none
structure LcOk (X : Cx) (scope : Scope) (N' : List Str) (src : List (Option Nat)) : Prop where
  kind : scope.kind = .function
  one : ∀ y ∈ scope.names, scope.names.lookup y.1 = some y.2
  cap : ∀ y ∈ scope.names, y.2 = .free → X.env.scope.names.lookup y.1 = some .cell
  len : N'.length = src.length
  src : ∀ (i j : Nat) (x : Str), N'[i]? = some x → src[i]? = some (some j) → X.N[j]? = some x ∧ (x, NameKind.free) ∈ scope.names
def lcCheck (N0 : List Str) (sc0 scope : Scope) (N' : List Str) (src : List (Option Nat)) : Bool :=
  (scope.kind == .function) && (scope.names.all fun y => scope.names.lookup y.1 == some y.2) && (scope.names.all fun y => y.2 != .free || sc0.names.lookup y.1 == some .cell) && (N'.length == src.length) &&
  ((N'.zip src).all fun p => match p.2 with
    | none => true
    | some j => N0[j]? == some p.1 && scope.names.any fun y => y.1 == p.1 && y.2 == .free)
theorem LcOk.of {X : Cx} {scope : Scope} {N' : List Str} {src : List (Option Nat)} (N0 : List Str) (sc0 : Scope) (hN : X.N = N0) (hS : X.env.scope = sc0) (h : lcCheck N0 sc0 scope N' src = true) : LcOk X scope N' src := by
  unfold lcCheck at h
  simp only [Bool.and_eq_true] at h
  obtain ⟨⟨⟨⟨h1, h2⟩, h3⟩, h4⟩, h5⟩ := h
  refine ⟨by simpa using h1, fun y hy => ?_, fun y hy hf => ?_, by simpa using h4, fun i j x e1 e2 => ?_⟩
  · have := List.all_eq_true.mp h2 y hy
    simpa using this
  · have := List.all_eq_true.mp h3 y hy
    rw [hS]
    rw [hf] at this
    simpa using this
  · have hz : (N'.zip src)[i]? = some (x, some j) := by
      rw [List.getElem?_zip_eq_some]
      exact ⟨e1, e2⟩
    have := List.all_eq_true.mp h5 _ (List.mem_of_getElem? hz)
    dsimp only at this
    rw [Bool.and_eq_true] at this
    obtain ⟨a, b⟩ := this
    rw [hN]
    refine ⟨by simpa using a, ?_⟩
    obtain ⟨y, hy, hb⟩ := List.any_eq_true.mp b
    rw [Bool.and_eq_true] at hb
    obtain ⟨p, q⟩ := hb
    have e1 : y.1 = x := by simpa using p
    have e2 : y.2 = .free := by simpa using q
    rw [← e1, ← e2]
    exact hy
section
variable {X : Cx} {scope : Scope} {N' : List Str} {src : List (Option Nat)} {pins : List (Addr × Obj)} {σ : St} {H1 : Hp} {s2 : Shared} {fp : List Addr}
theorem LcOk.capc (L : LcOk X scope N' src) (I : Inv X pins σ H1 s2) {x : Str} (h : (x, NameKind.free) ∈ scope.names) : ∃ c, X.env.cells.lookup x = some c :=
  I.ok.has x (.inl (L.cap _ h rfl))
theorem comp_cell (L : LcOk X scope N' src) (I : Inv X pins σ H1 s2) {C : Nat} {x : Str} {c : Addr} (h : (cellsFrom (C + 1) scope.names (closL X.env scope.names [])).lookup x = some c) :
    (cellsFrom (C + 1) scope.names []).lookup x = some c ∨ ((x, NameKind.free) ∈ scope.names ∧ X.env.cells.lookup x = some c) := by
  rw [cellsFrom_app] at h
  rcases lk_app h with h | h
  · exact .inl h
  · rcases closL_of _ _ _ _ _ h with h | ⟨h1, h2⟩
    · cases h
    · obtain ⟨c', e⟩ := L.capc I h1
      rw [e] at h2
      cases h2
      exact .inr ⟨h1, e⟩
theorem comp_old (I : Inv X pins σ H1 s2) {x : Str} {c : Addr} (h : X.env.cells.lookup x = some c) : @LT.lt Nat _ c s2.heap.objs.size := by
  obtain ⟨v, z⟩ := I.cell x c h
  exact z.lt
theorem comp_own {h0 : Heap} {x : Str} {c : Addr} (h : (cellsFrom h0.objs.size scope.names []).lookup x = some c) : (pushCells h0 scope.names).IsCell c none ∧ h0.objs.size ≤ c :=
  (cellsFrom_ok scope.names h0 h0.objs.size [] ⟨fun _ _ hm => (nomatch hm), List.Pairwise.nil⟩ (Nat.le_refl _)).empty x c (mem_of_lookup h)
theorem comp_apart (h0 : Heap) : (cellsFrom h0.objs.size scope.names []).Pairwise fun x y => x.2 ≠ y.2 :=
  (cellsFrom_ok scope.names h0 h0.objs.size [] ⟨fun _ _ hm => (nomatch hm), List.Pairwise.nil⟩ (Nat.le_refl _)).apart
def lcHeap (h : Heap) : Heap := (h.push { cls := .type "list", data := .seq ([] : List Value).toArray }).push { cls := .type "dict", data := .dict #[] }
theorem lcHeap_size (h : Heap) : (lcHeap h).objs.size = h.objs.size + 1 + 1 := by
  unfold lcHeap
  rw [Heap.size_push, Heap.size_push]
theorem lcHeap_keeps {h : Heap} {b : Addr} {o : Obj} (e : h.get? b = some o) : (lcHeap h).get? b = some o := Heap.get?_push_of_some _ (Heap.get?_push_of_some _ e)
theorem comp_ok (L : LcOk X scope N' src) (I : Inv X pins σ H1 s2) (f2 : ∀ b ∈ fp, FpOk X pins H1 b) (fo : ∀ b ∈ fp, b < s2.heap.objs.size) : (compCx X scope (s2.heap.objs.size + 1) N' s2 H1 fp).Ok := by
  have own : ∀ {x : Str} {c : Addr}, (cellsFrom (s2.heap.objs.size + 1 + 1) scope.names []).lookup x = some c → s2.heap.objs.size + 1 + 1 ≤ c := fun {x c} h => by
    have := comp_own (h0 := lcHeap s2.heap) (scope := scope) (x := x) (c := c) (by rw [lcHeap_size]; exact h)
    rw [lcHeap_size] at this
    exact this.2
  refine ⟨I.ok.mod, ?_, I.ok.glob, I.ok.blt, Nat.le_succ _, ?_, ?_, ?_, I.ok.hd, I.ok.frames, .inl rfl, ?_, I.bs, Nat.le_trans I.ok.bsz I.sz, ?_, ?_, I.stack, I.stkFree⟩
  · exact L.kind
  · intro x y c hx hy
    rcases comp_cell L I hx with hx | ⟨_, hx⟩ <;> rcases comp_cell L I hy with hy | ⟨_, hy⟩
    · have ap := comp_apart (scope := scope) (lcHeap s2.heap)
      rw [lcHeap_size] at ap
      exact name_of_addr ap (mem_of_lookup hx) (mem_of_lookup hy)
    · have := own hx
      have := comp_old I hy
      omega
    · have := own hy
      have := comp_old I hx
      omega
    · exact I.ok.inj x y c hx hy
  · intro x hx
    have : ∃ k0, (x, k0) ∈ scope.names ∧ (k0 = .cell ∨ k0 = .free) := by
      rcases hx with hx | hx
      · obtain ⟨k0, h1, h2⟩ := relabel_of hx
        rcases h2 with h2 | ⟨h2, _⟩
        · exact ⟨k0, h1, .inl h2.symm⟩
        · exact ⟨k0, h1, .inr h2⟩
      · obtain ⟨k0, h1, h2⟩ := relabel_of hx
        rcases h2 with h2 | ⟨_, h2⟩
        · exact ⟨k0, h1, .inr h2.symm⟩
        · cases h2
    obtain ⟨k0, h1, h2⟩ := this
    have z : ((cellsFrom (s2.heap.objs.size + 1 + 1) scope.names (closL X.env scope.names [])).lookup x).isSome = true := by
      rcases h2 with rfl | rfl
      · exact cellsFrom_has _ _ _ _ (.inl h1)
      · exact cellsFrom_has _ _ _ _ (.inr (closL_has _ _ _ _ (.inl h1)))
    exact Option.isSome_iff_exists.mp z
  · intro x c hf hx
    show s2.heap.objs.size ≤ c
    rcases comp_cell L I hx with hx | ⟨hm, hx⟩
    · have := own hx
      omega
    · have := List.all_eq_true.mp hf _ hm
      simp at this
  · intro b hb
    have hlt : @LT.lt Nat _ b s2.heap.objs.size := fo b hb
    refine ⟨fun z => ?_, fun x c hx z => ?_⟩
    · have z' : @Eq Nat b (s2.heap.objs.size + 1) := z
      omega
    · rcases comp_cell L I hx with hx | ⟨_, hx⟩
      · have := own hx
        have z' : @Eq Nat c b := z
        omega
      · exact (f2 b hb).2.2.2.2.1 x c hx z
  · intro b o e hb
    obtain ⟨_, _, _, h4, _⟩ := f2 b hb
    rcases h4 with h4 | h4
    · exact I.ok.noex b o e h4
    · have h5 : @LT.lt Nat _ b X.base.objs.size := Heap.lt_size e
      have h6 := I.ok.bsz
      have h7 : @LE.le Nat _ X.s₀.heap.objs.size b := h4
      omega
  · intro b hb hf
    rcases List.mem_cons.mp (I.stkSub b hf) with h | h
    · exact (f2 b hb).2.1 h
    · exact (f2 b hb).2.2.1 h
theorem comp_inv (L : LcOk X scope N' src) (I : Inv X pins σ H1 s2) (f2 : ∀ b ∈ fp, FpOk X pins H1 b) (fo : ∀ b ∈ fp, b < s2.heap.objs.size) :
    Inv (compCx X scope (s2.heap.objs.size + 1) N' s2 H1 fp) [] (src.map (pick σ)) (upd H1 s2.heap.objs.size (.lst [])) { s2 with heap := pushCells (lcHeap s2.heap) scope.names } := by
  have k0 : ∀ b o, s2.heap.get? b = some o → (pushCells (lcHeap s2.heap) scope.names).get? b = some o := fun b o e => pushCells_keeps _ _ b o (lcHeap_keeps e)
  have own : ∀ {x : Str} {c : Addr}, (cellsFrom (s2.heap.objs.size + 1 + 1) scope.names []).lookup x = some c → (pushCells (lcHeap s2.heap) scope.names).IsCell c none ∧ s2.heap.objs.size + 1 + 1 ≤ c := fun {x c} h => by
    have := comp_own (h0 := lcHeap s2.heap) (scope := scope) (x := x) (c := c) (by rw [lcHeap_size]; exact h)
    rw [lcHeap_size] at this
    exact this
  have I3 := I.lnew (its := []) (ys := []) (t' := s2.toks) .nil (Nat.zero_le _)
  refine ⟨comp_ok L I f2 fo, rfl, I.bare, Un.laid k0 (Nat.le_refl _) I.fresh, ⟨fun _ => none, ?_, fun i x v e1 e2 e3 => ?_⟩, fun x c e => ?_, ?_, fun x c e => ?_, fun p hp => ?_, ?_, ?_⟩
  · have z := (Heap.Ns.new (s2.heap.push { cls := .type "list", data := .seq ([] : List Value).toArray }) (.type "dict")).keeps (pushCells_keeps scope.names _)
    rw [Heap.size_push] at z
    exact z
  · rw [List.getElem?_map] at e2
    cases es : src[i]? with
    | none =>
      rw [es] at e2
      cases e2
    | some o =>
      rw [es] at e2
      cases o with
      | none => cases e2
      | some j =>
        have e2' : (σ[j]?).getD none = some v := Option.some.inj e2
        have e4 : σ[j]? = some (some v) := by
          cases ej : σ[j]? with
          | none =>
            rw [ej] at e2'
            cases e2'
          | some w =>
            rw [ej] at e2'
            exact congrArg some e2'
        obtain ⟨h1, h2⟩ := L.src i j x e1 es
        have hk : X.env.scope.names.lookup x = some .cell := L.cap _ h2 rfl
        obtain ⟨m, hn, hl⟩ := I.loc
        obtain ⟨u, r, lk⟩ := hl j x v h1 e4 (.inr (.inl hk))
        refine ⟨u, r, ?_⟩
        rcases lk with ⟨z, _⟩ | ⟨_, c, hc, hi⟩
        · have z' : X.env.scope.names.lookup x = some .local := z
          rw [hk] at z'
          cases z'
        · refine .inr ⟨?_, c, ?_, ?_⟩
          · rcases e3 with e3 | e3 | e3
            · obtain ⟨k1, m1, m2⟩ := relabel_of e3
              have o1 := L.one _ m1
              have o2 := L.one _ h2
              rw [o1] at o2
              rcases m2 with m2 | ⟨_, m2⟩
              · rw [← m2] at o2
                cases o2
              · cases m2
            · exact .inl e3
            · exact .inr e3
          · have z : ((cellsFrom (s2.heap.objs.size + 1 + 1) scope.names (closL X.env scope.names [])).lookup x).isSome = true := cellsFrom_has _ _ _ _ (.inr (closL_has _ _ _ _ (.inl h2)))
            obtain ⟨c', hc'⟩ := Option.isSome_iff_exists.mp z
            have e : c' = c := by
              rcases comp_cell L I hc' with q | ⟨_, q⟩
              · rcases cellsFrom_key _ _ _ _ _ q with q | q
                · cases q
                · have o1 := L.one _ q
                  have o2 := L.one _ h2
                  rw [o1] at o2
                  cases o2
              · rw [hc] at q
                exact (Option.some.inj q).symm
            rw [← e]
            exact hc'
          · obtain ⟨ob, ho, hd⟩ := hi
            exact ⟨ob, k0 _ _ ho, hd⟩
  · rcases comp_cell L I e with q | ⟨_, q⟩
    · exact ⟨none, (own q).1⟩
    · obtain ⟨v, ob, ho, hd⟩ := I.cell x c q
      exact ⟨v, ob, k0 _ _ ho, hd⟩
  · show upd H1 s2.heap.objs.size (.lst []) (s2.heap.objs.size + 1) = none
    rw [upd_ne (show @Ne Nat _ _ by omega)]
    exact I.hok.fresh (show @LE.le Nat _ _ _ by omega)
  · rcases comp_cell L I e with q | ⟨_, q⟩
    · have z := (own q).2
      rw [upd_ne (show @Ne Nat _ _ by omega)]
      exact I.hok.fresh (show @LE.le Nat _ _ _ by omega)
    · have z := comp_old I q
      rw [upd_ne (show @Ne Nat _ _ by omega)]
      exact I.freeC x c q
  · cases hp
  · refine HOk.kept (h := s2.heap.push { cls := .type "list", data := .seq ([] : List Value).toArray }) I3.hok fun b o e => ?_
    exact pushCells_keeps _ _ b o (Heap.get?_push_of_some _ e)
  · show (src.map (pick σ)).length = N'.length
    rw [List.length_map, L.len]
end
section
variable {prog : Program} {w : World} {A : Around} {R : Result → Shared → Prop} {s : Shared}
theorem compLoop_go {elt target iter : Expr} {ifs : List Expr} {scope : Scope} {pos : Pos} {it acc : Value} {env : Env} (I : Nat → Shared → Prop)
    (turn : ∀ n s, I n s → wpAny (model prog w) A (pyNext it) (fun r s₁ => match r with
      | none => R (.ok .next) s₁
      | some v => wpAny (model prog w) A (letOwnedTupleGo target it v) (fun _ s₁' => wpAny (model prog w) A (assign target env v) (fun _ s₂ =>
          wpAny (model prog w) A (forIn ifs true fun c r => if r = true then do let ok ← isTrue c env (eval c env); pure (ForInStep.yield ok) else pure (ForInStep.yield r)) (fun ok s₃ =>
            if ok = true then wpAny (model prog w) A (eval elt env) (fun x s₄ =>
              wpAny (model prog w) A (call (.builtin "list.append") [acc, x]) (fun _ s₅ => ∃ m, m < n ∧ I m s₅) (fun _ _ => False) s₄) (fun _ _ => False) s₃
            else ∃ m, m < n ∧ I m s₃) (fun _ _ => False) s₂) (fun _ _ => False) s₁') (fun _ _ => False) s₁) (fun _ _ => False) s)
    (n : Nat) (h : I n s) :
    codeAny (model prog w) A (.compLoop (.ListComp elt [⟨target, iter, ifs, 0⟩] scope pos) 0 it acc env) R s := by
  refine codeAny_loop rfl I (fun n s hI => ?_) n h
  show wpAny _ A ((compTurn (.ListComp elt [⟨target, iter, ifs, 0⟩] scope pos) 0 it acc env).onRaise (fun x => do noteFrame x env; theTreesLotGoes x)) _ _ s
  refine wpAny_noted ?_
  rw [compTurn_list]
  refine wpAny_bind (wpAny_standAt (wpAny_bind (wpAny_mono (turn n s hI) (fun r s₁ h₁ => ?_) fun _ _ h' => h'.elim)))
  cases r with
  | none => exact wpAny_pure h₁
  | some v =>
    refine wpAny_bind (wpAny_mono h₁ (fun _ s₁' h₁' => wpAny_bind (wpAny_mono h₁' (fun _ s₂ h₂ => wpAny_bind (wpAny_mono h₂ (fun ok s₃ h₃ => ?_) fun _ _ h' => h'.elim)) fun _ _ h' => h'.elim)) fun _ _ h' => h'.elim)
    cases ok with
    | false => exact wpAny_pure ⟨rfl, h₃⟩
    | true =>
      exact wpAny_bind (wpAny_bind (wpAny_mono h₃ (fun x s₄ h₄ => wpAny_bind (wpAny_mono h₄ (fun _ s₅ h₅ => wpAny_pure (wpAny_pure ⟨rfl, h₅⟩)) fun _ _ h' => h'.elim)) fun _ _ h' => h'.elim))
end
section
variable {M : Model} {A : Around} {E : Value → Shared → Prop} {s : Shared}
theorem newEnv_comp {scope : Scope} {globals : Addr} {cl : List (Str × Addr)} {qual : Str} {env : Env} {Q : Env → Shared → Prop}
    (h : Q (newEnv scope s.heap.objs.size globals (cellsFrom (s.heap.objs.size + 1) scope.names cl) qual none .none (some env) builtinsNs) { s with heap := pushCells (s.heap.push { cls := .type "dict", data := .dict #[] }) scope.names }) :
    wpAny M A (newFunctionEnv scope globals cl [] qual none .none (some env)) Q E s := by
  simp only [newFunctionEnv, Option.isSome_some, if_true]
  refine wpAny_bind (wpAny_alloc ?_)
  refine wpAny_bind (wpAny_layCells _ (fun name kind cells => by cases hkc : kind == NameKind.cell <;> simp [hkc]) _ _ _ _ ?_)
  rw [show ({ s with heap := s.heap.push { cls := .type "dict", data := .dict #[] } } : Shared).heap.objs.size = s.heap.objs.size + 1 from Heap.size_push ..]
  rw [List.forIn_nil]
  exact wpAny_bind (wpAny_pure (wpAny_pure h))
end
def PTL (X : Cx) (ifs : List Expr) (t : TT) : Prop :=
  ∀ (pins : List (Addr × Obj)) (s : Shared) (σ : St) (H : Hp) (Q : Bool → Hp → Prop), Inv X pins σ H s → t σ H Q →
    wpAny (model X.prog X.w) X.A (forIn ifs true fun c r => if r = true then do let ok ← isTrue c X.env (eval c X.env); pure (ForInStep.yield ok) else pure (ForInStep.yield r)) (TP X pins σ Q) X.xe s
def tYes : TT := fun _ H Q => Q true H
theorem ptl_nil {X : Cx} : PTL X [] tYes := fun _ _ _ H _ I h => wpAny_tests_nil ⟨H, I, h⟩
theorem ptl_one {X : Cx} {c : Expr} {t : TT} (h : PT X c t) : PTL X [c] t := fun pins s σ H Q I q => wpAny_tests_one (h pins s σ H Q I q)
def LcT (tt : TT) (te : TE) (D : Addr) (Pn : St → Hp → Prop) : St → Hp → Prop := fun σ3 H3 => tt σ3 H3 fun b H4 => if b = true then te σ3 H4 fun v H5 => ∃ ys, H5 D = some (.lst ys) ∧ ys.length < sizeLine ∧ Pn σ3 (upd H5 D (.lst (ys ++ [v]))) else Pn σ3 H4
def LcW (src : List (Option Nat)) (g : TG) (tt : TT) (te : TE) (σ : St) (J : It) (H1 : Hp) (D : Addr) (R : Hp → Prop) : Prop := ∃ W : Nat → Nat → St → Hp → Prop,
  (∃ m, W 0 m (src.map (pick σ)) (upd H1 D (.lst []))) ∧ ∀ i m σ' H', W i m σ' H' →
    (J.stop i H' ∧ R H') ∨
    (J.go i H' ∧ ∃ N : St → Hp → Prop, (∀ σ' H', N σ' H' → ∃ m', m' < m ∧ W (i + 1) m' σ' H') ∧ ∀ x H2, J.yld i H' x H2 → g x σ' H2 (LcT tt te D N))
def tLc (wi : TI) (src : List (Option Nat)) (g : TG) (tt : TT) (te : TE) : TE := fun σ H Q => wi σ H fun J H1 => ∀ D, H1 D = none → LcW src g tt te σ J H1 D fun H' => Q (.ref D) H'
section
variable {X : Cx} {scope : Scope} {N' : List Str} {src : List (Option Nat)} {elt tg iter : Expr} {ifs : List Expr} {pos p : Pos} {wi : TI} {g : TG} {tt : TT} {te : TE}
theorem lc_core {use : Option (Value → Sem Unit)} {pins : List (Addr × Obj)} {σ : St} {H : Hp} {s : Shared} {Q : Value → Shared → Prop} {R : Addr → Hp → Prop} (hc : X.calm = true) (L : LcOk X scope N' src)
    (hi : PI X tg iter wi) (hg : ∀ C s2 H1 fp, PG (compCx X scope C N' s2 H1 fp) tg g) (ht : ∀ C s2 H1 fp, PTL (compCx X scope C N' s2 H1 fp) ifs tt) (he : ∀ C s2 H1 fp, PE (compCx X scope C N' s2 H1 fp) elt te)
    (hs : ∀ x, foldedSetIterable iter X.env x = pure x) (I : Inv X pins σ H s) (h : wi σ H fun J H1 => ∀ D, H1 D = none → LcW src g tt te σ J H1 D (R D))
    (fin : ∀ (D C : Addr) (s' : Shared) (H' : Hp), Inv X pins σ H' s' → R D H' → H' C = none → C ≠ X.env.locals → X.s₀.heap.objs.size ≤ C → (∀ x c, X.env.cells.lookup x = some c → c ≠ C) → (∀ q ∈ X.pn ++ pins, q.1 ≠ C) → (∃ m, s'.heap.Ns C m) →
      compPost (model X.prog X.w) X.A X.xe use Q (.ref D) C (.ok .next) s') :
    wpAny (model X.prog X.w) X.A (comprehension (.ListComp elt [⟨tg, iter, ifs, 0⟩] scope pos) scope X.env p (newList []) false (eval iter X.env) use) Q X.xe s := by
  have capc : ∀ y ∈ scope.names, y.2 = .free → ∃ c, X.env.cells.lookup y.1 = some c := fun y hy hf => I.ok.has y.1 (.inl (L.cap y hy hf))
  refine wpAny_comprehension_free rfl hs (closureFor_eq capc) L.kind (fun y hy hl => by rw [← hl]; exact L.one y hy) (thn (hi pins s σ H _ I h) fun xv s1 h1 => thn h1 fun itv s2 h2 => ?_)
  obtain ⟨it, fp, tn, J, H1, e, I2, T, st2, f2, w⟩ := h2
  subst e
  obtain ⟨W, ⟨m0, w0⟩, turn⟩ := w s2.heap.objs.size I2.fresh
  have fo : ∀ b ∈ fp, b < s2.heap.objs.size := fun b hb => by
    obtain ⟨o, e, _⟩ := T.obj _ _ st2 b hb
    exact Heap.lt_size e
  have I4 := comp_inv L I2 f2 fo
  have k0 : ∀ b o, s2.heap.get? b = some o → (pushCells (lcHeap s2.heap) scope.names).get? b = some o := fun b o e => pushCells_keeps _ _ b o (lcHeap_keeps e)
  refine wpAny_newObj_type (newEnv_comp ?_)
  have sz : ({ s2 with heap := s2.heap.push { cls := .type "list", data := .seq ([] : List Value).toArray } } : Shared).heap.objs.size = s2.heap.objs.size + 1 := Heap.size_push ..
  rw [sz]
  have loop : codeAny (model X.prog X.w) X.A (.compLoop (.ListComp elt [⟨tg, iter, ifs, 0⟩] scope pos) 0 (.ref it) (.ref s2.heap.objs.size) (compCx X scope (s2.heap.objs.size + 1) N' s2 H1 fp).env)
      (compPost (model X.prog X.w) X.A X.xe use Q (.ref s2.heap.objs.size) (s2.heap.objs.size + 1)) { s2 with heap := pushCells (lcHeap s2.heap) scope.names } := by
    refine compLoop_go (fun n s' => ∃ i σ' H', Inv (compCx X scope (s2.heap.objs.size + 1) N' s2 H1 fp) [] σ' H' s' ∧ tn i s'.heap ∧ (∀ b ∈ fp, H' b = none) ∧ W i n σ' H') ?_ m0
      ⟨0, _, _, I4, T.keep _ _ _ st2 (fun b hb o e => k0 b o e), fun b hb => ?_, w0⟩
    · have stat : ∀ {H' : Hp}, (∀ b ∈ fp, H' b = none) → ∀ b ∈ fp, FpOk (compCx X scope (s2.heap.objs.size + 1) N' s2 H1 fp) [] H' b := fun hn b hb =>
        ⟨hn b hb, (I4.ok.exf b hb).1, I4.ok.exfs b hb, .inl hb, (I4.ok.exf b hb).2, fun q hq => by cases hq⟩
      rintro n s5 ⟨i, σ5, H5, I5, st5, fr5, w5⟩
      rcases turn i n σ5 H5 w5 with ⟨stop, qn⟩ | ⟨go, N, hN, step⟩
      · refine thn (T.done (compCx X scope (s2.heap.objs.size + 1) N' s2 H1 fp) rfl rfl rfl hc i [] s5 σ5 H5 (fun _ _ => False) I5 (stat fr5) st5 stop) fun r s6 ⟨hr, I6⟩ => ?_
        subst hr
        have IX : Inv X pins σ H5 s6 := I2.call' (ch := fp) I6.os I6.base I6.hok I6.bare fun b hb => ⟨(f2 b hb).2.2.2.1, (f2 b hb).2.1, (f2 b hb).2.2.2.2.1, (f2 b hb).2.2.2.2.2⟩
        refine fin s2.heap.objs.size (s2.heap.objs.size + 1) s6 H5 IX qn I6.free ?_ ?_ (fun x c e z => ?_) (fun q hq z => ?_) ?_
        · have h9 : @LT.lt Nat _ X.env.locals s2.heap.objs.size := I2.lt
          show @Ne Nat _ _
          omega
        · exact Nat.le_trans I2.sz (Nat.le_succ _)
        · have h9 := comp_old I2 e
          have z' : @Eq Nat c (s2.heap.objs.size + 1) := z
          omega
        · have h9 : @LT.lt Nat _ q.1 s2.heap.objs.size := Heap.lt_size (I2.pin q hq).1
          have z' : @Eq Nat q.1 (s2.heap.objs.size + 1) := z
          omega
        · obtain ⟨m, hn, _⟩ := I6.loc
          exact ⟨m, hn⟩
      · refine thn (T.item (compCx X scope (s2.heap.objs.size + 1) N' s2 H1 fp) rfl rfl rfl hc i [] s5 σ5 H5 (fun _ _ => False) I5 (stat fr5) st5 go) fun r s6 ⟨u, hr, h6⟩ => ?_
        subst hr
        refine thn h6 fun _ s7 ⟨x, H7, I7, r7, y7, st7, fr7⟩ => ?_
        have I7' := I7.pinned (stat fr7) (T.obj _ _ st7)
        have again : ∀ {s' : Shared} {σ' : St} {H' : Hp}, Inv (compCx X scope (s2.heap.objs.size + 1) N' s2 H1 fp) ([] ++ pinsAt fp s7.heap) σ' H' s' → N σ' H' →
            ∃ m, m < n ∧ ∃ i σ' H', Inv (compCx X scope (s2.heap.objs.size + 1) N' s2 H1 fp) [] σ' H' s' ∧ tn i s'.heap ∧ (∀ b ∈ fp, H' b = none) ∧ W i m σ' H' := fun {s' σ' H'} I8 n8 => by
          obtain ⟨m', hm, w8⟩ := hN σ' H' n8
          refine ⟨m', hm, i + 1, σ', H', I8.unpinned, T.keep _ _ _ st7 fun b hb o e => (I8.pin (b, o) (List.mem_append_right _ (List.mem_append_right _ (mem_pinsAt hb e)))).1, fun b hb => ?_, w8⟩
          obtain ⟨o, e, d⟩ := T.obj _ _ st7 b hb
          exact (I8.pin (b, o) (List.mem_append_right _ (List.mem_append_right _ (mem_pinsAt hb e)))).2.1
        refine thn (hg _ _ _ _ _ s7 σ5 H7 x u _ I7' r7 (step x H7 y7)) fun _ s8 ⟨σ8, H8, I8, q8⟩ => ?_
        refine thn (ht _ _ _ _ _ s8 σ8 H8 _ I8 q8) fun b s9 ⟨H9, I9, q9⟩ => ?_
        cases b with
        | false =>
          exact again I9 q9
        | true =>
          refine thn (he _ _ _ _ _ s9 σ8 H9 _ I9 q9) fun v s10 ⟨y, H10, I10, r10, ys, hD, hl, w10⟩ => ?_
          refine thn (mt_append _ s10 σ8 H10 (.ref s2.heap.objs.size) [y] (.ref s2.heap.objs.size) [v] (fun _ H' => H' = upd H10 s2.heap.objs.size (.lst (ys ++ [y]))) I10 rfl (.cons r10 .nil) ⟨_, ys, y, rfl, rfl, hD, hl, rfl⟩) fun z s11 ⟨_, H11, I11, _, e11⟩ => ?_
          subst e11
          exact again I11 w10
    · show upd H1 s2.heap.objs.size (.lst []) b = none
      have h9 : @LT.lt Nat _ b s2.heap.objs.size := fo b hb
      rw [upd_ne (show @Ne Nat _ _ by omega)]
      exact (f2 b hb).1
  refine codeAny_compStart_list loop (T.self _ 0 _ _ _ (T.keep _ _ _ st2 fun b hb o e => k0 b o e) loop)
theorem pe_lc (hc : X.calm = true) (L : LcOk X scope N' src)
    (hi : PI X tg iter wi) (hg : ∀ C s2 H1 fp, PG (compCx X scope C N' s2 H1 fp) tg g) (ht : ∀ C s2 H1 fp, PTL (compCx X scope C N' s2 H1 fp) ifs tt) (he : ∀ C s2 H1 fp, PE (compCx X scope C N' s2 H1 fp) elt te)
    (hs : ∀ x, foldedSetIterable iter X.env x = pure x := by intro _; rfl) : PE X (.ListComp elt [⟨tg, iter, ifs, 0⟩] scope pos) (tLc wi src g tt te) := by
  intro pins s σ H Q I h
  rw [eval_ListComp]
  refine lc_core (use := none) (R := fun D H' => Q (.ref D) H') hc L hi hg ht he hs I h fun D C s' H' I' q hC hL h0 hcl hp ⟨m, hn⟩ => ⟨m, hn, fun h' hsb => ?_⟩
  refine ⟨.ref D, H', ?_, rfl, q⟩
  exact I'.turned (t' := s'.toks) (it := C) (fun b o hb e => hsb.extBut b o hb e) hC hL (.inr h0) hcl hp
theorem ps_setLc {i : Nat} {y : Str} {py spos : Pos} (hc : X.calm = true) (hN : X.N.Nodup) (hy : X.N[i]? = some y) (hx : Loc X.env.scope y) (L : LcOk X scope N' src)
    (hi : PI X tg iter wi) (hg : ∀ C s2 H1 fp, PG (compCx X scope C N' s2 H1 fp) tg g) (ht : ∀ C s2 H1 fp, PTL (compCx X scope C N' s2 H1 fp) ifs tt) (he : ∀ C s2 H1 fp, PE (compCx X scope C N' s2 H1 fp) elt te)
    (hsw : swapsWith (.ListComp elt [⟨tg, iter, ifs, 0⟩] scope pos) (some (.Name y py)) spos.line X.env = pure true := by rfl)
    (hs : ∀ x, foldedSetIterable iter X.env x = pure x := by intro _; rfl) (hf : X.fn y = true ∨ X.env.scope.names.lookup y = some .local := by first | exact .inl rfl | exact .inr rfl | assumption) :
    PS X (.Assign [.Name y py] (.ListComp elt [⟨tg, iter, ifs, 0⟩] scope pos) spos) (tAsg (tLc wi src g tt te) (gName i)) := by
  intro pins s σ H D I h
  rw [exec_Assign_Name_used _ _ _ _ hsw]
  refine wpAny_bind (wpAny_standAt (wpAny_bind ?_))
  show wpAny _ X.A (do let _ ← comprehension (.ListComp elt [⟨tg, iter, ifs, 0⟩] scope pos) scope X.env _ (newList []) false (eval iter X.env) (some (assign (.Name y py) X.env))) _ _ s
  refine wpAny_bind (wpAny_mono (lc_core (use := some (assign (.Name y py) X.env)) (Q := fun _ s' => SP X pins D .next s') (R := fun A H' => D.nx (σ.set i (some (.ref A))) H') hc L hi hg ht he hs I h
    fun A C s' H' I' q hC hL h0 hcl hp ⟨m, hn⟩ => ?_) (fun _ s' hq => wpAny_pure (wpAny_pure hq)) fun _ _ e => e)
  show wpAny _ X.A (assign (.Name y py) X.env (.ref A)) _ _ _
  refine wpAny_assign_Name (store_ok2 (v := .ref A) I' hN hy hx rfl (fun s2 I2 ⟨a, hsa, ha⟩ => ?_) hf)
  have nCa : C ≠ a := by
    rcases ha with rfl | ha
    · exact hL
    · exact (hcl _ _ ha).symm
  refine ⟨m, hn.sameBut hsa nCa, fun h' hsb => ⟨_, H', ?_, q⟩⟩
  exact I2.turned (t' := s2.toks) (it := C) (fun b o hb e => hsb.extBut b o hb e) hC hL (.inr h0) hcl hp
end
section
variable {src : List (Option Nat)} {g : TG} {tt : TT} {te : TE} {σ : St} {H1 : Hp} {D : Addr} {R : Hp → Prop} {K : PySem.W.Frag}
end
end L2
namespace L2
open PySem PySem.Spec PyProof.Rows
theorem Vals.get_back : ∀ {xs : List V} {us : List Value} {i : Nat} {u : Value}, Vals xs us → us[i]? = some u → ∃ x, xs[i]? = some x ∧ RelV x u
  | _, _, _, _, .nil, e => by simp at e
  | _, _, 0, _, .cons r _, e => by simp at e; subst e; exact ⟨_, rfl, r⟩
  | _, _, i + 1, u, .cons _ t, e => by
    obtain ⟨x, h1, h2⟩ := Vals.get_back (i := i) (u := u) t (by simpa using e)
    exact ⟨x, by simpa using h1, h2⟩
theorem range_getD {α : Type} (l : List α) (d : α) : (List.range l.length).map (fun i => l.getD i d) = l := by
  refine List.ext_getElem (by simp) fun i h1 h2 => ?_
  rw [List.getElem_map, List.getElem_range, List.getD_eq_getElem?_getD, List.getElem?_eq_getElem h2]
  rfl
theorem all_range (bs : List Bool) : (List.range bs.length).all (fun i => bs.getD i false) = bs.all id := by
  have e := range_getD bs false
  have h : ((List.range bs.length).map (fun i => bs.getD i false)).all id = bs.all id := by rw [e]
  rw [List.all_map] at h
  exact h
section
variable {X : Cx}
theorem call_all_list (hc : X.calm = true) : CallR X (.builtin "all") (fun xs H Q => ∃ (p : Addr) (bs : List Bool), xs = [.ref p] ∧ SqL X.K H p (bs.map V.bl) ∧ Q (.bl (bs.all id)) H) := by
  intro pins s σ H xs us Q I r h
  obtain ⟨p, bs, rfl, hq, q⟩ := h
  obtain ⟨u, rfl, rx⟩ := vals1 r
  cases rx
  obtain ⟨its, rv, pl, hz⟩ := I.list hq
  have hl := rv.length
  rw [List.length_map] at hl
  have hlt : p < s.heap.objs.size := by
    obtain ⟨o, n, e, _⟩ := pl
    exact Heap.lt_size e
  have hh : X.A.in1.handled = none := I.ok.hd hc
  refine call_all_walk (wpAny_pyIter_list pl.isList ?_)
  refine ⟨s.heap.objs.size, _, _, _, _, _, fun i => bs.getD i false, rfl, Walks.list hh _ p (Nat.ne_of_lt hlt) its.toArray, ⟨⟨_, Heap.get?_push_size _ rfl, rfl, rfl⟩, pl.isList.push _⟩, ?_, fun h' tk hk => ?_⟩
  · intro i v s' Q' E' hP hQ
    have hP' : its[i]? = some v := by simpa using hP
    obtain ⟨x, hx, rx⟩ := rv.get_back hP'
    rw [List.getElem?_map] at hx
    cases eb : bs[i]? with
    | none =>
      rw [eb] at hx
      cases hx
    | some b =>
      rw [eb] at hx
      cases hx
      cases (show v = Value.bool b from rx)
      have e : bs.getD i false = b := by rw [List.getD_eq_getElem?_getD, eb]; rfl
      dsimp only at hQ
      rw [e] at hQ
      exact wpAny_truthy_bool hQ
  · have e : (List.range its.toArray.size).all (fun i => bs.getD i false) = bs.all id := by
      rw [List.size_toArray, ← hl]
      exact all_range bs
    rw [e]
    refine ⟨.bl _, H, I.kept (t' := tk) (h' := h') fun b o e => hk b o ?_ (Heap.get?_push_of_some _ e), rfl, q⟩
    exact fun z => absurd (Heap.lt_size e) (by rw [List.mem_singleton.mp z]; exact Nat.lt_irrefl _)
theorem PI.or {tg l : Expr} {w1 w2 : TI} (h1 : PI X tg l w1) (h2 : PI X tg l w2) : PI X tg l (fun σ H R => w1 σ H R ∨ w2 σ H R) := by
  intro pins s σ H R I h
  rcases h with h | h
  · exact h1 pins s σ H R I h
  · exact h2 pins s σ H R I h
end
end L2
namespace L2
open PySem PySem.Spec PyProof.Rows
mutual
def IsD (K : PySem.W.Frag) (H : Hp) : PyData → V → Prop
  | .none, v => v = .non
  | .bool b, v => v = .bl b
  | .int i, v => v = .int i
  | .str x, v => v = .str x
  | .tuple ds, v => ∃ a xs, v = .ref a ∧ SqT K H a xs ∧ IsDs K H ds xs
  | .list ds, v => ∃ a xs, v = .ref a ∧ SqL K H a xs ∧ IsDs K H ds xs
  | .dict _, _ => False
def IsDs (K : PySem.W.Frag) (H : Hp) : List PyData → List V → Prop
  | [], xs => xs = []
  | d :: ds, xs => ∃ x r, xs = x :: r ∧ IsD K H d x ∧ IsDs K H ds r
end
section
variable {X : Cx} {pins : List (Addr × Obj)} {σ : St} {H : Hp} {s : Shared}
mutual
theorem IsD.reads (I : Inv X pins σ H s) : ∀ (d : PyData) (x : V) (u : Value), IsD X.K H d x → RelV x u → ∃ as, Reads s.heap u d as
  | .none, x, u, h, r => by
    rw [IsD] at h
    subst h
    cases (show u = Value.none from r)
    exact ⟨_, Reads.none⟩
  | .bool b, x, u, h, r => by
    rw [IsD] at h
    subst h
    cases (show u = Value.bool b from r)
    exact ⟨_, Reads.bool b⟩
  | .int i, x, u, h, r => by
    rw [IsD] at h
    subst h
    obtain ⟨t, e⟩ := (show ∃ t, u = Value.int i t from r)
    cases e
    exact ⟨_, Reads.int i t⟩
  | .str y, x, u, h, r => by
    rw [IsD] at h
    subst h
    obtain ⟨t, e⟩ := (show ∃ t, u = Value.str y t from r)
    cases e
    exact ⟨_, Reads.str y t⟩
  | .tuple ds, x, u, h, r => by
    rw [IsD] at h
    obtain ⟨a, xs, rfl, hq, hd⟩ := h
    cases (show u = Value.ref a from r)
    obtain ⟨its, rv, ⟨o, ho, hc, n, hdt⟩, _⟩ := I.tuple hq
    obtain ⟨as, q⟩ := IsDs.reads I ds xs its hd rv
    exact ⟨as, reads_tuple_at ho hc hdt q⟩
  | .list ds, x, u, h, r => by
    rw [IsD] at h
    obtain ⟨a, xs, rfl, hq, hd⟩ := h
    cases (show u = Value.ref a from r)
    obtain ⟨its, rv, ⟨o, n, ho, hc, _, hdt⟩, _⟩ := I.list hq
    obtain ⟨as, q⟩ := IsDs.reads I ds xs its hd rv
    exact ⟨_, reads_list_at ho hc hdt q⟩
  | .dict _, x, u, h, r => by
    rw [IsD] at h
    exact h.elim
theorem IsDs.reads (I : Inv X pins σ H s) : ∀ (ds : List PyData) (xs : List V) (us : List Value), IsDs X.K H ds xs → Vals xs us → ∃ as, ReadsAll s.heap us ds as
  | [], xs, us, h, r => by
    rw [IsDs] at h
    subst h
    cases r
    exact ⟨_, ReadsAll.nil⟩
  | d :: ds, xs, us, h, r => by
    rw [IsDs] at h
    obtain ⟨x, rest, rfl, hd, hds⟩ := h
    cases r with
    | cons r1 r2 =>
      obtain ⟨as, q⟩ := IsD.reads I d x _ hd r1
      obtain ⟨bs, p⟩ := IsDs.reads I ds rest _ hds r2
      exact ⟨_, ReadsAll.cons q p⟩
end
theorem op_eqD (hu : X.A.units + 64 < cLine) : OpR X (compareOp .Eq) (fun x y H Q => ∃ d e, IsD X.K H d x ∧ IsD X.K H e y ∧ SeqAt.shaped d = true ∧ SeqAt.shaped e = true ∧ Q (.bl (PyData.eqv d e)) H) := by
  intro pins s σ H x y v u Q I rx ry h
  obtain ⟨d, e, hd, he, sd, se, q⟩ := h
  obtain ⟨as, ra⟩ := IsD.reads I d x v hd rx
  obtain ⟨bs, rb⟩ := IsD.reads I e y u he ry
  exact eq_dataH ra rb sd se hu ⟨.bl _, H, I, rfl, q⟩
theorem op_neD (hu : X.A.units + 64 < cLine) : OpR X (compareOp .NotEq) (fun x y H Q => ∃ d e, IsD X.K H d x ∧ IsD X.K H e y ∧ SeqAt.shaped d = true ∧ SeqAt.shaped e = true ∧ Q (.bl (!PyData.eqv d e)) H) := by
  intro pins s σ H x y v u Q I rx ry h
  obtain ⟨d, e, hd, he, sd, se, q⟩ := h
  obtain ⟨as, ra⟩ := IsD.reads I d x v hd rx
  obtain ⟨bs, rb⟩ := IsD.reads I e y u he ry
  exact ne_dataH ra rb sd se hu ⟨.bl _, H, I, rfl, q⟩
end
theorem Same.seqT {K : PySem.W.Frag} {H H' : Hp} {a : Addr} {xs : List V} (e : Same H H') (h : SqT K H a xs) : SqT K H' a xs := by
  rcases h with (h | ⟨o, h⟩) | h
  · exact .inl (.inl (e _ _ h))
  · exact .inl (.inr ⟨o, e _ _ h⟩)
  · exact .inr h
mutual
theorem IsD.same {K : PySem.W.Frag} {H H' : Hp} (e : Same H H') : ∀ (d : PyData) (x : V), IsD K H d x → IsD K H' d x
  | .none, x, h => by rw [IsD] at h ⊢; exact h
  | .bool b, x, h => by rw [IsD] at h ⊢; exact h
  | .int i, x, h => by rw [IsD] at h ⊢; exact h
  | .str y, x, h => by rw [IsD] at h ⊢; exact h
  | .tuple ds, x, h => by
    rw [IsD] at h ⊢
    obtain ⟨a, xs, rfl, hq, hd⟩ := h
    exact ⟨a, xs, rfl, e.seqT hq, IsDs.same e ds xs hd⟩
  | .list ds, x, h => by
    rw [IsD] at h ⊢
    obtain ⟨a, xs, rfl, hq, hd⟩ := h
    exact ⟨a, xs, rfl, e.seq hq, IsDs.same e ds xs hd⟩
  | .dict _, x, h => by rw [IsD] at h; exact h.elim
theorem IsDs.same {K : PySem.W.Frag} {H H' : Hp} (e : Same H H') : ∀ (ds : List PyData) (xs : List V), IsDs K H ds xs → IsDs K H' ds xs
  | [], xs, h => by rw [IsDs] at h ⊢; exact h
  | d :: ds, xs, h => by
    rw [IsDs] at h ⊢
    obtain ⟨x, r, rfl, hd, hds⟩ := h
    exact ⟨x, r, rfl, IsD.same e d x hd, IsDs.same e ds r hds⟩
end
section
variable {K : PySem.W.Frag} {H : Hp}
theorem isDs_ints : ∀ ns : List Int, IsDs K H (ns.map PyData.int) (ns.map V.int)
  | [] => by rw [List.map_nil, List.map_nil, IsDs]
  | n :: ns => by
    rw [List.map_cons, List.map_cons, IsDs]
    exact ⟨_, _, rfl, by rw [IsD], isDs_ints ns⟩
end
def rowsD (rows : List (List Int)) : List PyData := rows.map fun r => PyData.tuple (r.map PyData.int)
end L2
namespace L2
open PySem PySem.Spec PyProof.Rows
section
variable {X : Cx} (K : PySem.W.Frag)
end
end L2
namespace L2
open PySem PySem.Spec PyProof.Rows
structure Cov (l : List Env) (H H' : Hp) (h B : Heap) : Prop where
  old : ∀ b o, h.get? b = some o → b ∉ frs l → ∃ o', B.get? b = some o' ∧ (H b = none → o' = o)
  trk : ∀ b u, H' b = some u → ∃ o, B.get? b = some o
def CX1 (P : Program) (w : World) : CXT := fun l H s E e s' => ∃ (ea C : Addr) (a0 : Value) (B : Heap) (H' : Hp),
  e = .ref ea ∧ s'.os = s.os ∧ AllBare s'.gens ∧ Un (frs l) [] H H' s.heap s'.heap ∧ HOk P w H' s'.heap ∧ Heap.FlyingW B l ea (.ref C) a0 s'.heap ∧ Cov l H H' s.heap B ∧ E (.ref C) none H'
section
variable {P : Program} {w : World} {l : List Env} {H H' : Hp} {h h1 h2 B : Heap} {ea : Addr} {cls a0 : Value}
theorem fly_hok (ok : HOk P w H' h1) (trk : ∀ b u, H' b = some u → ∃ o, B.get? b = some o) (f1 : B.StaysIn h1) (f2 : B.StaysIn h2) : HOk P w H' h2 := fun a o e =>
  (ok a o e).stay (fun b u hc q => by
    have ⟨o1, e1⟩ : ∃ o1, B.get? b = some o1 := by
      rcases hc with z | z
      · rw [z]
        exact trk a o e
      · exact trk b _ z
    have z := f1 b o1 e1
    rw [q] at z
    cases z
    exact f2 _ _ e1) (fun _ q => q) fun _ _ q => q
theorem fly_on (u : Un (frs l) [] H H' h h1) (c : Cov l H H' h B) (f1 : h1.FunFrames B l) (s2 : B.StaysIn h2) (f2 : h2.FunFrames B l) (sm : h1.UpToSlots h2) : Un (frs l) [] H H' h h2 where
  keep := fun b o q n hb _ => by
    obtain ⟨o', e1, e2⟩ := c.old b o q hb
    rw [e2 n] at e1
    exact s2 b o e1
  slot := fun b o q n hb hx => by
    obtain ⟨sl, e1⟩ := u.slot b o q n hb hx
    obtain ⟨_, o1, e3, hd⟩ := f1.mem hb
    rw [e1] at e3
    cases e3
    obtain ⟨sl', e4⟩ := sm b _ e1 hd
    exact ⟨sl', e4⟩
  free := u.free
  there := fun b o q _ => by
    by_cases hb : b ∈ frs l
    · obtain ⟨_, o1, e3, _⟩ := f2.mem hb
      exact ⟨o1, e3⟩
    · obtain ⟨o', e1, _⟩ := c.old b o q hb
      exact ⟨o', s2 _ _ e1⟩
  tups := u.tups
  frzs := u.frzs
  tbls := u.tbls
end
theorem ObjOk.ex {P : Program} {w : World} {H : Hp} {h : Heap} {a : Addr} {o : HO} (x : ObjOk P w H h a o) : ∃ ob, h.get? a = some ob := by
  cases o with
  | lst xs => obtain ⟨_, _, _, _, z⟩ := x; exact ⟨_, z⟩
  | tup xs => obtain ⟨_, _, _, ob, z, _⟩ := x; exact ⟨ob, z⟩
  | dK kvs => obtain ⟨_, _, _, _, ob, _, _, z, _⟩ := x; exact ⟨ob, z⟩
  | dT kvs => obtain ⟨_, _, _, _, ob, _, _, z, _⟩ := x; exact ⟨ob, z⟩
  | set S n => obtain ⟨ob, _, _, _, z, _⟩ := x; exact ⟨ob, z⟩
  | ins C dx fs => obtain ⟨_, _, _, z, _⟩ := x; exact ⟨_, z⟩
  | own y => exact x
  | xd fs => obtain ⟨_, ⟨ob, _, _, z, _⟩, _⟩ := x; exact ⟨ob, z⟩
  | rng lo hi => obtain ⟨_, _, _, z⟩ := x; exact ⟨_, z⟩
  | frz ob u => obtain ⟨z, _⟩ := x; exact ⟨_, z⟩
  | tbl ps => exact ⟨_, show h.get? a = some _ from x⟩
  | met f y => exact ⟨_, show h.get? a = some _ from x⟩
  | ext φ => obtain ⟨_, z, _⟩ := x; exact z
structure DefCx (X : Cx) : Prop where
  stk : X.stack = X.env :: X.outer
  frm : X.env.frame = some X.env.locals
  ex : X.ex = []
section
variable {X : Cx} {pins : List (Addr × Obj)} {σ : St} {H H' : Hp} {s : Shared} {h' B : Heap}
theorem DefCx.mem (D : DefCx X) {b : Addr} (hb : b ∈ frs X.stack) : b = X.env.locals ∨ b ∈ X.fs := by
  rw [D.stk] at hb
  unfold frs at hb
  rw [List.filterMap_cons, D.frm] at hb
  exact List.mem_cons.mp hb
theorem DefCx.sub (D : DefCx X) {b : Addr} (hb : b ∈ X.fs) : b ∈ frs X.stack := by
  rw [D.stk]
  unfold frs
  rw [List.filterMap_cons, D.frm]
  exact List.mem_cons_of_mem _ hb
theorem DefCx.out (D : DefCx X) (I : Inv X pins σ H s) {b : Addr} {o : Obj} (e : X.s₀.heap.get? b = some o) (hb : b ∉ X.fs) : b ∉ frs X.stack := fun z => by
  rcases D.mem z with z | z
  · exact absurd (Nat.lt_of_lt_of_le (Heap.lt_size e) I.ok.above) (by rw [z]; exact Nat.lt_irrefl _)
  · exact hb z
theorem lift_un (D : DefCx X) (I : Inv X pins σ H s) (u : Un (frs X.stack) [] H H' s.heap h') : Un X.fs [] X.H₀ H' X.s₀.heap h' where
  keep := fun b o q n hb _ => u.keep b o (I.base.keep b o q n hb (by rw [D.ex]; simp)) (I.base.free b o q n (by rw [D.ex]; simp)) (D.out I q hb) (by simp)
  slot := fun b o q n hb _ => by
    obtain ⟨sl, e1⟩ := I.base.slot b o q n hb (by rw [D.ex]; simp)
    obtain ⟨sl', e2⟩ := u.slot b _ e1 (I.base.free b o q n (by rw [D.ex]; simp)) (D.sub hb) (by simp)
    exact ⟨sl', e2⟩
  free := fun b o q n _ => by
    obtain ⟨o', e1⟩ := I.base.there b o q (by rw [D.ex]; simp)
    exact u.free b o' e1 (I.base.free b o q n (by rw [D.ex]; simp)) (by simp)
  there := fun b o q _ => by
    obtain ⟨o', e1⟩ := I.base.there b o q (by rw [D.ex]; simp)
    exact u.there b o' e1 (by simp)
  tups := fun b xs q => u.tups b xs (I.base.tups b xs q)
  frzs := fun b o xs q => u.frzs b o xs (I.base.frzs b o xs q)
  tbls := fun b ps q => by
    obtain ⟨m1, e1⟩ := I.base.tbls b ps q
    obtain ⟨m2, e2⟩ := u.tbls b _ e1
    exact ⟨m1 ++ m2, by rw [e2, Array.append_assoc]⟩
theorem lift_cov (D : DefCx X) (I : Inv X pins σ H s) (c : Cov X.stack H H' s.heap B) : Cov X.outer X.H₀ H' X.s₀.heap B where
  old := fun b o q hb => by
    obtain ⟨o1, e1⟩ := I.base.there b o q (by rw [D.ex]; simp)
    obtain ⟨o', e2, e3⟩ := c.old b o1 e1 (D.out I q hb)
    refine ⟨o', e2, fun n => ?_⟩
    have k := I.base.keep b o q n hb (by rw [D.ex]; simp)
    rw [e1] at k
    cases k
    exact e3 (I.base.free b o q n (by rw [D.ex]; simp))
  trk := c.trk
end
theorem pass1 {P : Program} {w : World} {K : PySem.W.Frag} {mg : Str → Option Value} {base : Heap} {N : List Str} {qual : Str} {scope : Scope} {f : Addr} {cd : Value} {A : Around} {outer : List Env} {s₀ : Shared} {H₀ : Hp} {E E' : XK}
    (hE : ∀ C H', E (.ref C) none H' → E' (.ref C) none H') : Passes (CX1 P w) (cxOf (CX1 P w) P w K mg base N qual scope f cd A outer s₀ H₀ E') E := by
  intro pins σ H s e s' I h
  obtain ⟨ea, C, a0, B, H', rfl, ho, hg, u, ok, fl, c, hw⟩ := h
  have D : DefCx (cxOf (CX1 P w) P w K mg base N qual scope f cd A outer s₀ H₀ E') := ⟨rfl, rfl, rfl⟩
  refine wpAny_leaves_onW I.ok.frames rfl fl fun h' fl' sm => ?_
  have u' := lift_un D I u
  have c' := lift_cov D I c
  refine ⟨ea, C, a0, B, H', rfl, ho.trans I.os, hg, ?_, fly_hok ok c.trk fl.1 fl'.1, fl', c', hE _ _ hw⟩
  refine fly_on u' c' ?_ fl'.1 fl'.2.2.1 sm
  exact fl.2.2.1.2.2
structure ExcCls (K : PySem.W.Frag) (C : Addr) : Prop where
  ok : PySem.W.excIn K C [.type "ValueError", .type "Exception", .type "BaseException", .type "object"] "ValueError.__new__" = true
theorem exc_facts {K : PySem.W.Frag} {C : Addr} {h : Heap} (X : K.In h) (c : ExcCls K C) : ∃ bm N nm q bs hdct sn sub ab col dd k0 k1 k2 k3 k5 mN,
    h.get? C = some (excClassObj nm q C N bs bm hdct sn sub ab col dd k0 k1 k2 k3 k5 "ValueError.__new__") ∧ h.Ns N mN ∧ mN "__init__" = none ∧ OwnTail h [.type "ValueError", .type "Exception", .type "BaseException", .type "object"] bm := by
  have z := c.ok
  unfold PySem.W.excIn at z
  split at z
  case h_2 => cases z
  case h_1 d0 rec slots found =>
    split at z
    case h_2 => cases z
    case h_1 C1 tl s0 s1 s2 s3 nw s5 em es =>
      rw [Bool.and_eq_true, Bool.and_eq_true, Bool.and_eq_true, Bool.and_eq_true, Bool.and_eq_true] at z
      obtain ⟨⟨⟨⟨⟨y1, y2⟩, y3⟩, y4⟩, y5⟩, y6⟩ := z
      cases (beq_iff_eq.mp y1)
      cases (beq_iff_eq.mp y2)
      have y3' : rec.hasDel = false := by simpa using y3
      obtain ⟨⟩ := rec
      obtain ⟨⟩ := slots
      dsimp only at em es y3' y5 y6
      subst em y3' es
      exact ⟨tl, _, _, _, _, _, _, _, _, _, d0, s0, s1, s2, s3, s5, _, X _ _ found, .of_isNs (PySem.W.isNs_of_in X y5), PySem.W.nsMap_none_of_in X y5 (beq_iff_eq.mp y6), PySem.W.tail_of_in X y4⟩
end L2
namespace L2
open PySem PySem.Spec PyProof.Rows
section
variable {X : Cx} {x : Str} {C : Addr} {np cpos pos : Pos} {e : Expr} {es : List Expr} {t : TA}
def tRaise (R : Hp → Prop) (t : TA) : TS := fun _ σ H => t σ H fun vs H1 => vs.length ≤ sizeLine ∧ R H1
theorem ps_raise {R : Hp → Prop} (hc : X.calm = true) (c : ExcCls X.K C) (hg : Gl X x) (hm : X.mg x = some (.ref C)) (ha : PA X (e :: es) t)
    (hR : ∀ pins σ H s h' ea args, Inv X pins σ H s → R H → Heap.MadeExcOf s.heap h' ea (.ref C) args → X.xe (.ref ea) { s with heap := h' })
    (he : starEach (e :: es) X.env = (false, eval e X.env) :: starEach es X.env := by rfl) (hpl : (backTo cpos (starEach es X.env)).any (·.1) = false := by rfl) (hdb : (x == ("__debug__" : Str)) = false := by decide) :
    PS X (.Raise (some (.Call (.Name x np) (e :: es) [] cpos)) none pos) (tRaise R t) := by
  intro pins s σ H D I h
  obtain ⟨tl, N, nm, q, bs, hdct, sn, sub, ab, col, dd, k0, k1, k2, k3, k5, mN, hC, hN, hni, T⟩ := exc_facts I.mod.kin c
  refine wpAny_Raise_call_subT (C := C) (nm := nm) (q := q) (N := N) (bs := bs) (bm := tl) (hdct := hdct) (sn := sn) (sub := sub) (ab := ab) (col := col) (dd := dd) (k0 := k0) (k1 := k1) (k2 := k2) (k3 := k3) (k5 := k5)
    PySem.F.excBase_ValueError (mN := mN) (T.hasType PySem.F.excBase_ValueError.hasBase) (I.ok.hd hc) (by rw [he]; show (false || (backTo cpos (starEach es X.env)).any (·.1)) = false; rw [hpl]; rfl) hni (ld_glob I hg hm ⟨rfl, ?_⟩ hdb)
  have z := ha cpos pins s σ H _ I h
  rw [he] at z ⊢
  refine Calls.evalArgs_plain (wpAny_mono z (fun us s2 ⟨vs, H2, I2, r2, hl, hr⟩ => ?_) fun _ _ y => y)
  refine ⟨rfl, by rw [← r2.length]; exact hl, I2.bk _ _ hC, hN.keeps I2.bk, T.keeps I2.bk, fun h' ea m => hR pins σ H2 s2 h' ea us I2 hr m⟩
end
theorem raise_wish {P : Program} {w : World} {K : PySem.W.Frag} {mg : Str → Option Value} {base : Heap} {N : List Str} {qual : Str} {scope : Scope} {f : Addr} {cd : Value} {A : Around} {outer : List Env} {s₀ : Shared} {H₀ : Hp} {E : XK} {C : Addr} :
    ∀ pins σ H s h' ea args, Inv (cxOf (CX1 P w) P w K mg base N qual scope f cd A outer s₀ H₀ E) pins σ H s → E (.ref C) none H → Heap.MadeExcOf s.heap h' ea (.ref C) args →
      (cxOf (CX1 P w) P w K mg base N qual scope f cd A outer s₀ H₀ E).xe (.ref ea) { s with heap := h' } := by
  intro pins σ H s h' ea args I hw m
  have D : DefCx (cxOf (CX1 P w) P w K mg base N qual scope f cd A outer s₀ H₀ E) := ⟨rfl, rfl, rfl⟩
  have stays : (PySem.W.hideAll s.heap (frs (cxOf (CX1 P w) P w K mg base N qual scope f cd A outer s₀ H₀ E).stack)).StaysIn s.heap := fun b o q => PySem.W.of_hideAll _ q
  have frames := PySem.W.funFrames_hide (as := frs (cxOf (CX1 P w) P w K mg base N qual scope f cd A outer s₀ H₀ E).stack) I.stack fun env he b hb => List.mem_filterMap.mpr ⟨env, he, hb⟩
  refine wpAny_leaves_madeW I.ok.frames rfl stays frames m fun h2 t fl _ _ sm => ?_
  have c : Cov (cxOf (CX1 P w) P w K mg base N qual scope f cd A outer s₀ H₀ E).stack H H s.heap (PySem.W.hideAll s.heap (frs (cxOf (CX1 P w) P w K mg base N qual scope f cd A outer s₀ H₀ E).stack)) :=
    ⟨fun b o q hb => ⟨o, PySem.W.hideAll_get _ q hb, fun _ => rfl⟩, fun b u q => by
      obtain ⟨o, e⟩ := (I.hok b u q).ex
      exact ⟨o, PySem.W.hideAll_get _ e fun z => by rw [I.stkFree b z] at q; cases q⟩⟩
  have up : s.heap.UpToSlots h2 := (Heap.UpToSlots.of_keeps m.keeps).trans sm
  have c' := lift_cov D I c
  refine ⟨ea, C, .ref t, _, H, rfl, I.os, I.bare, ?_, fly_hok I.hok c.trk stays fl.1, fl, c', hw⟩
  refine fly_on (h1 := s.heap) ?_ c' frames.2.2 fl.1 fl.2.2.1 up
  rw [← D.ex]
  exact I.base
end L2
namespace L2
open PySem PySem.Spec PyProof.Rows
def ExcAt (ea C : Addr) : Heap → Prop := fun h => ∃ ob, h.get? ea = some ob ∧ ob.cls = .ref C
section
variable {X : Cx} {ea C : Addr} {pins : List (Addr × Obj)} {σ : St} {H : Hp} {s : Shared}
end
end L2
namespace L2
open PySem PySem.Spec PyProof.Rows
section
variable {X : Cx} {pins : List (Addr × Obj)} {E' : Value → Shared → Prop} {σ : St} {H : Hp} {s : Shared}
end
section
variable {X : Cx} {body : List Stmt} {n : Str} {np hp pos : Pos} {b₀ : Stmt} {suite : List Stmt} {Ch : Addr} {tb ts : TS}
end
end L2
namespace L2
open PySem PySem.Spec PyProof.Rows
section
variable {prog : Program} {w : World} {A : Around} {E : Value → Shared → Prop} {s : Shared}
theorem cat_tup0 {t b : Addr} {ws : List Value} {Q : Value → Shared → Prop} (ht : IsTup s.heap t ([] : List Value).toArray) (hb : IsTup s.heap b ws.toArray) (h : Q (.ref b) s) : wpAny (model prog w) A (binaryOp .Add (.ref t) (.ref b)) Q E s := by
  obtain ⟨⟨c1, d1, y1, z1⟩, ho, hc, n, hd⟩ := id ht
  obtain ⟨⟨c2, d2, y2, z2⟩, ho2, hc2, n2, hd2⟩ := id hb
  simp only at hc hd hc2 hd2
  subst hc hd hc2 hd2
  exact concat_meets ⟨_, ho, rfl⟩ ⟨_, ho2, rfl⟩ noFill_tuple_add seq_tuple_add PySem.F.slot_tuple_add PySem.F.entry_tuple_add (PySem.F.args_tuple_add_2 _ _) (tuple_addW0 t b _ ws.toArray n n2 d1 d2 z1 z2 rfl) ⟨ho, ho2, h⟩
theorem getItem_tuple_all {t sl : Addr} {items : Array Value} {vl vu : Value} {lo hi : Option Int} {Q : Value → Shared → Prop} (ht : IsTup s.heap t items) (hs : s.heap.IsSliceOf sl vl vu .none) (pl : IsPart vl lo) (pu : IsPart vu hi)
    (h0 : HT.sIx items.size 0 lo = 0) (h1 : HT.sIx items.size items.size hi = items.size) (h : Q (.ref t) s) : wpAny (model prog w) A (getItem (.ref t) (.ref sl)) Q E s := by
  obtain ⟨os, hos, hcs, hds⟩ := id hs
  have hTs : s.TypeIs (.ref sl) "slice" := ⟨os, hos, hcs⟩
  unfold getItem
  try with_reducible refine wpAny_holding ?_
  first | refine wpAny_bind (wpAny_pure ?_) | skip
  refine wpAny_bind (wpAny_sequenceKey ht.typeIs (by decide) ?_)
  refine wpAny_bind (wpAny_callSpecial?_slot (name := Str.ofString "__getitem__") ht.typeIs PyProof.Rows.slot_tuple_getitem
    (wpAny_call_entry PyProof.Rows.slot_tuple_getitem ht.typeIs entry_tuple_getitem ?_ (args_tuple_getitem _ _)))
  show wpAny _ _ (Builtin.Tuple.tupleItemsOf (.ref t) >>= _) _ _ s
  refine wpAny_bind (tupleItemsOf_ ht ?_)
  refine wpAny_bind (wpAny_typeOf hTs ?_)
  rw [if_pos (by decide)]
  refine wpAny_bind (HT.sliceApplied_gen (n := items.size) hs pl pu ?_)
  rw [h0, h1]
  have yes : (((0 : Nat) : Int) == 0 && (1 : Int) == 1 && (items.size - 0) == items.size) = true := by simp
  show wpAny _ _ (if (((0 : Nat) : Int) == 0 && (1 : Int) == 1 && (items.size - 0) == items.size) = true then _ else _) _ _ s
  rw [if_pos yes]
  unfold Builtin.Tuple.tupleIsExact
  refine wpAny_bind (wpAny_bind (wpAny_typeOf ht.typeIs (wpAny_pure ?_)))
  rw [if_pos (by decide)]
  first
    | exact wpAny_bind (wpAny_rule (wpAny_pure ⟨_, rfl, wpAny_pure h⟩))
    | exact wpAny_bind (wpAny_rule (wpAny_bind (wpAny_pure (wpAny_pure ⟨_, rfl, wpAny_pure h⟩))))
    | exact wpAny_pure ⟨_, rfl, wpAny_pure h⟩
theorem noFill_tup_mul : fillsNumberSlot (.type "tuple") "mul" = pure false :=
  PySem.fillsNumberSlot_seq (id := "tuple.__mul__") (r := some (.builtin "tuple.__rmul__")) PySem.F.slot_tuple_mul.lookup (by decide +kernel) PySem.F.slot_tuple_rmul.lookup (by decide +kernel)
theorem repeat_tup : seqRepeat? (.type "tuple") = pure (some (.builtin "tuple.__mul__")) := by
  unfold seqRepeat?
  rw [PySem.seqSlot_of (T := "tuple") (name := "__mul__") (id := "tuple.__mul__") PySem.F.slot_tuple_mul.lookup (by decide +kernel), PySem.seqSlot_of (T := "tuple") (name := "__rmul__") (id := "tuple.__rmul__") PySem.F.slot_tuple_rmul.lookup (by decide +kernel)]
  rfl
theorem rmul_tup (a : Int) (t : Tok) (l : Addr) (dd : Option Addr) (items : Array Value) (n : Nat) (sl : Array (Option Value)) :
    Meets (Builtin.«int.__rmul__» ⟨[.int a t, .ref l], []⟩) (fun _ R s => s.heap.get? l = some ⟨.type "tuple", dd, .seq items n, sl⟩ ∧ R (.ok (.ret Value.notImplemented)) s) :=
  .of_wp fun prog w A R s h => by
    obtain ⟨hp, g, d, tk, os⟩ := s
    obtain ⟨hl, h⟩ := h
    wp_walk
    exact ⟨_, rfl, h⟩
theorem mul_tup (l : Addr) (dd : Option Addr) (items : Array Value) (n : Nat) (sl : Array (Option Value)) (k : Int) (u : Tok) (hk : 2 ≤ k) (hk2 : k < 2 ^ 62) (hne : items.isEmpty = false) (hz : items.size * k.toNat ≤ sizeLine) :
    Meets (Builtin.«tuple.__mul__» ⟨[.ref l, .int k u], []⟩) (fun _ R s => s.heap.get? l = some ⟨.type "tuple", dd, .seq items n, sl⟩ ∧ R (.ok (.ret (Value.ref s.heap.objs.size))) { s with heap := s.heap.push { cls := Value.type "tuple", data := Data.seq (List.foldl (fun x1 x2 => x1 ++ x2) #[] (List.replicate k.toNat items)) } }) :=
  .of_wp fun prog w A R s h => by
    obtain ⟨hp, g, d, tk, os⟩ := s
    obtain ⟨hl, h⟩ := h
    have f1 := AutoSeq1.idx_int
    have hzi : (items.size : Int) * k ≤ (sizeLine : Int) := by
      have e : (items.size : Int) * k = ((items.size * k.toNat : Nat) : Int) := by
        rw [Int.natCast_mul, Int.toNat_of_nonneg (by omega)]
      rw [e]
      exact Int.ofNat_le.mpr hz
    have c1 : ¬ (decide (k < -2 ^ 63) || decide (k ≥ 2 ^ 63)) = true := by
      rw [Bool.or_eq_true, decide_eq_true_eq, decide_eq_true_eq]
      omega
    have c2 : ¬ (items.isEmpty || k == 1) = true := by
      rw [hne, Bool.false_or]
      intro z
      have := eq_of_beq z
      omega
    have c3 : ¬ (decide (k ≤ 0) || items.isEmpty) = true := by
      rw [hne, Bool.or_false, decide_eq_true_eq]
      omega
    have c4 : ¬ (items.size : Int) * k > (2 ^ 63 - 1) / 8 := by
      have : (sizeLine : Int) ≤ (2 ^ 63 - 1) / 8 := by decide
      omega
    have c5 : ¬ Builtin.Tuple.tupleTooMany ((items.size : Int) * k) = true := by
      unfold Builtin.Tuple.tupleTooMany
      rw [decide_eq_true_eq]
      omega
    have hj : sizeOk (.seq (List.foldl (fun x1 x2 => x1 ++ x2) #[] (List.replicate k.toNat items))) := by
      have e := foldl_rep items.toList k.toNat []
      rw [List.nil_append] at e
      show (List.foldl (fun x1 x2 => x1 ++ x2) #[] (List.replicate k.toNat items)).size ≤ sizeLine
      have e' : List.foldl (fun x1 x2 => x1 ++ x2) #[] (List.replicate k.toNat items) = (List.replicate k.toNat items.toList).flatten.toArray := e
      rw [e', List.size_toArray, len_rep, Array.length_toList, Nat.mul_comm]
      exact hz
    wp_walk using AutoSeq1.wpAny_loadPart' hl
    refine wpAny_ite_false (by simpa using c1) ?_
    refine wpAny_bind (tupleItemsOf_ ⟨_, hl, rfl, n, rfl⟩ ?_)
    refine wpAny_ite_false (by simpa using c2) ?_
    refine wpAny_ite_false (by simpa using c3) ?_
    rw [if_neg c4]
    refine wpAny_ite_false (by simpa using c5) ?_
    unfold Builtin.Tuple.tupleExact
    exact wpAny_bind (wpAny_newObj_type (wpAny_pure ⟨_, rfl, h⟩) hj)
end
end L2
namespace L2
open PySem PySem.Spec PyProof.Rows
section
variable {X : Cx}
end
end L2
namespace L2
open PySem PySem.Spec PyProof.Rows
section
variable {X : Cx} {pins : List (Addr × Obj)} {σ : St} {H : Hp} {s : Shared} {h' : Heap}
theorem Inv.turnedL {t' : Nat} {ch : List Addr} (I : Inv X pins σ H s) (k : ∀ b o, b ∉ ch → s.heap.get? b = some o → h'.get? b = some o) (hf : ∀ b ∈ ch, FpOk X pins H b) : Inv X pins σ H { s with heap := h', toks := t' } := by
  have out : ∀ b u, H b = some u → b ∉ ch := fun b u e z => by
    have q := (hf b z).1
    rw [e] at q
    cases q
  refine I.step (g' := s.gens) (d' := s.drawn) (ch := ch) (fun b hb => ⟨(hf b hb).2.2.2.1, (hf b hb).2.1, (hf b hb).2.2.2.2.1, (hf b hb).2.2.2.2.2⟩) (fun b o _ _ nc e _ => k b o nc e) (fun b o _ _ nc e _ => ⟨o.slots, k b o nc e⟩)
    (fun _ _ _ _ n => n) (fun b o nc e => ⟨o, k b o nc e⟩) (fun _ _ e => e) (fun _ _ _ e => e) (fun b ps e => ⟨#[], by rw [e]; simp⟩) (fun m hm => ?_) (fun b u e => ?_) I.bare
  · obtain ⟨o, es, ep, ho, r⟩ := hm
    exact ⟨o, es, ep, k _ o (fun z => (hf _ z).2.1 rfl) ho, r⟩
  · refine (I.hok b u e).stay (fun c v hc q => k c v ?_ q) (fun _ q => q) fun _ _ q => q
    rcases hc with z | z
    · rw [z]
      exact out b u e
    · exact out c _ z
theorem Inv.turnedT {t' : Nat} {ch : List Addr} {T : Addr} {xs : List V} (I : Inv X pins σ H s) (k : ∀ b o, b ∉ ch → s.heap.get? b = some o → h'.get? b = some o) (hf : ∀ b ∈ ch, FpOk X pins H b) (hT : s.heap.objs.size ≤ T)
    (new : ObjOk X.prog X.w (upd H T (.tup xs)) h' T (.tup xs)) : Inv X pins σ (upd H T (.tup xs)) { s with heap := h', toks := t' } := by
  have hn : H T = none := I.hok.fresh hT
  have out : ∀ b u, H b = some u → b ∉ ch := fun b u e z => by
    have q := (hf b z).1
    rw [e] at q
    cases q
  have up : ∀ b u, H b = some u → upd H T (.tup xs) b = some u := fun b u e => by rw [upd_ne (ne_of_none e hn)]; exact e
  refine I.step (g' := s.gens) (d' := s.drawn) (ch := ch) (fun b hb => ⟨(hf b hb).2.2.2.1, (hf b hb).2.1, (hf b hb).2.2.2.2.1, (hf b hb).2.2.2.2.2⟩) (fun b o _ _ nc e _ => k b o nc e) (fun b o _ _ nc e _ => ⟨o.slots, k b o nc e⟩)
    (fun b o _ e n => ?_) (fun b o nc e => ⟨o, k b o nc e⟩) (fun b ys e => up b _ e) (fun b o u e => up b _ e) (fun b ps e => ⟨#[], by rw [up b _ e]; simp⟩) (fun m hm => ?_) (fun b u e => ?_) I.bare
  · rw [upd_ne (fun z => absurd (Heap.lt_size e) (by rw [z]; exact Nat.not_lt.mpr hT))]
    exact n
  · obtain ⟨o, es, ep, ho, r⟩ := hm
    exact ⟨o, es, ep, k _ o (fun z => (hf _ z).2.1 rfl) ho, r⟩
  · by_cases hb : b = T
    · subst hb
      rw [upd_same] at e
      cases e
      exact new
    · rw [upd_ne hb] at e
      refine (I.hok b u e).stay (fun c v hc q => k c v ?_ q) (fun c z => up c _ z) fun c ys z => up c _ z
      rcases hc with z | z
      · rw [z]
        exact out b u e
      · exact out c _ z
end
def SIt (b : Bool) (h : Heap) (it l : Addr) (i : Nat) : Prop := match b with
  | true => h.IsTupleIter it l i
  | false => h.IsListIter it l i
def SSq (b : Bool) (h : Heap) (l : Addr) (xs : Array Value) : Prop := match b with
  | true => h.IsTuple l xs
  | false => h.IsList l xs
section
variable {b : Bool} {h h' : Heap} {it l : Addr} {i : Nat} {xs : Array Value}
theorem SIt.mv (x : SIt b h it l i) (k : ∀ o, h.get? it = some o → h'.get? it = some o) : SIt b h' it l i := by
  cases b with
  | true =>
    obtain ⟨o, e, r⟩ := x
    exact ⟨o, k o e, r⟩
  | false =>
    obtain ⟨o, e, r⟩ := x
    exact ⟨o, k o e, r⟩
theorem SSq.mv (x : SSq b h l xs) (k : ∀ o, h.get? l = some o → h'.get? l = some o) : SSq b h' l xs := by
  cases b with
  | true =>
    obtain ⟨o, e, r⟩ := x
    exact ⟨o, k o e, r⟩
  | false =>
    obtain ⟨o, e, r⟩ := x
    exact ⟨o, k o e, r⟩
theorem SIt.rec (x : SIt b h it l i) : ∃ o, h.get? it = some o ∧ ∀ v, o.data ≠ .cell v := by
  cases b with
  | true =>
    obtain ⟨o, e, _, d⟩ := x
    exact ⟨o, e, fun v z => by rw [d] at z; cases z⟩
  | false =>
    obtain ⟨o, e, _, d⟩ := x
    exact ⟨o, e, fun v z => by rw [d] at z; cases z⟩
end
section
variable {prog : Program} {w : World} {A : Around} {E : Value → Shared → Prop} {s : Shared}
theorem nextS_item {b : Bool} {it l : Addr} {i : Nat} {xs : Array Value} {x : Value} {Q : Value → Shared → Prop} (hi : SIt b s.heap it l i) (hl : SSq b s.heap l xs) (hx : xs[i]? = some x)
    (hQ : ∀ h', SIt b h' it l (i + 1) → Heap.SameBut it s.heap h' → Q x { s with heap := h' }) : wpAny (model prog w) A (Builtin.SmallTypes.nextOf (.ref it)) Q E s := by
  cases b with
  | false => exact wpAny_nextOf_list_item hi hl hx fun h' a1 a2 => hQ h' a1 a2
  | true =>
    have hit : s.heap.IsTupleIter it l i := hi
    obtain ⟨o, ho, hc, hd⟩ := id hit
    obtain ⟨ol, hol, _, nl, hdl⟩ := (show s.heap.IsTuple l xs from hl)
    unfold Builtin.SmallTypes.nextOf
    refine wpAny_bind (wpAny_callSpecial?_slot (name := Str.ofString "__next__") hit.typeIs F.slot_tuple_iterator_next (wpAny_call_entry F.slot_tuple_iterator_next hit.typeIs F.entry_tuple_iterator_next ?_ (F.args_tuple_iterator_next_1 _)))
    refine (show wpAny _ _ (field (.ref it) 0 >>= _) _ _ s from wpAny_bind (wpAny_field ho hd (x := .ref l) rfl ?_))
    refine (show wpAny _ _ (if (Value.ref l == Value.none) = true then _ else _) _ _ s from ?_)
    rw [if_neg (show ¬ (Value.ref l == Value.none) = true from Bool.false_ne_true)]
    refine (show wpAny _ _ (field (.ref it) 1 >>= _) _ _ s from wpAny_bind (wpAny_field ho hd (x := .int i 0) rfl ?_))
    refine (show wpAny _ _ (seqItems? (.ref l) >>= _) _ _ s from wpAny_bind (wpAny_seqItems hol hdl ?_))
    simp only [Int.toNat_natCast, hx]
    refine wpAny_bind (wpAny_setField ho hd (by simp) (wpAny_pure ⟨x, rfl, wpAny_pure (hQ _ (show Heap.IsTupleIter _ _ _ _ from ?_) (Heap.SameBut.update ..))⟩))
    exact ⟨_, Heap.get?_update_self _ ho (Obj.isFreed_of_fields (Obj.data_mapFields hd _)), (Obj.cls_mapFields ..).trans hc, by rw [Obj.data_mapFields hd]; simp [rawInt]⟩
theorem nextS_end {b : Bool} {it l : Addr} {i : Nat} {xs : Array Value} {Q : Value → Shared → Prop} (hh : A.handled = none) (hi : SIt b s.heap it l i) (hl : SSq b s.heap l xs) (hx : xs[i]? = none)
    (hE : ∀ h' e, Heap.ExtBut it s.heap h' → (∃ o, h'.get? e = some o ∧ o.cls = .type "StopIteration") → E (.ref e) { s with heap := h' }) : wpAny (model prog w) A (Builtin.SmallTypes.nextOf (.ref it)) Q E s := by
  cases b with
  | false => exact wpAny_nextOf_list_end hh hi hl hx hE
  | true =>
    have hit : s.heap.IsTupleIter it l i := hi
    obtain ⟨o, ho, hc, hd⟩ := id hit
    obtain ⟨ol, hol, _, nl, hdl⟩ := (show s.heap.IsTuple l xs from hl)
    unfold Builtin.SmallTypes.nextOf
    refine wpAny_bind (wpAny_callSpecial?_slot (name := Str.ofString "__next__") hit.typeIs F.slot_tuple_iterator_next (wpAny_call_entry F.slot_tuple_iterator_next hit.typeIs F.entry_tuple_iterator_next ?_ (F.args_tuple_iterator_next_1 _)))
    refine (show wpAny _ _ (field (.ref it) 0 >>= _) _ _ s from wpAny_bind (wpAny_field ho hd (x := .ref l) rfl ?_))
    refine (show wpAny _ _ (if (Value.ref l == Value.none) = true then _ else _) _ _ s from ?_)
    rw [if_neg (show ¬ (Value.ref l == Value.none) = true from Bool.false_ne_true)]
    refine (show wpAny _ _ (field (.ref it) 1 >>= _) _ _ s from wpAny_bind (wpAny_field ho hd (x := .int i 0) rfl ?_))
    refine (show wpAny _ _ (seqItems? (.ref l) >>= _) _ _ s from wpAny_bind (wpAny_seqItems hol hdl ?_))
    simp only [Int.toNat_natCast, hx]
    refine wpAny_bind (wpAny_rule (wpAny_bind (wpAny_setField ho hd (by simp) ?_)))
    refine (show wpAny _ _ (newExc (.type "StopIteration") [] >>= _) _ _ _ from wpAny_bind ?_)
    simp only [newExc, newTuple]
    refine wpAny_bind (wpAny_newObj_type ?_ (by size_fits))
    refine wpAny_bind (m := firstArgMember _ _) (wpAny_of_eq (a := Value.none) (by first | rfl | (simp only [firstArgMember]; rfl)) ?_)
    refine wpAny_newObj_type ?_ (by size_fits)
    simp only [raiseNew]
    refine wpAny_bind (wpAny_handled ?_)
    first | rw [show A.in1.handled = none from hh] | rw [hh]
    exact wpAny_bind (wpAny_pure (wpAny_throw (hE _ _ (((Heap.SameBut.update ..).extBut.push _).push _) ⟨_, Heap.get?_push_size _ rfl, rfl⟩)))
theorem zipS_item {b1 b2 : Bool} {z TI TO i1 i2 l1 l2 : Addr} {k : Nat} {xs ys : Array Value} {x y a c : Value} {Q : Option Value → Shared → Prop} (D : ZipApart z TI TO i1 i2 l1 l2)
    (hz : IsZip s.heap z TI TO .none) (hTI : IsPair s.heap TI (.ref i1) (.ref i2)) (hTO : IsPair s.heap TO a c) (h1 : SIt b1 s.heap i1 l1 k) (h2 : SIt b2 s.heap i2 l2 k) (hl1 : SSq b1 s.heap l1 xs) (hl2 : SSq b2 s.heap l2 ys) (hx : xs[k]? = some x) (hy : ys[k]? = some y)
    (hQ : ∀ h', IsZip h' z TI TO (rawInt s.heap.objs.size) → IsPair h' TO x y → SIt b1 h' i1 l1 (k + 1) → SIt b2 h' i2 l2 (k + 1) → IsPair h' s.heap.objs.size x y → h'.objs.size = s.heap.objs.size + 1 →
      (∀ c o, c ≠ z → c ≠ TO → c ≠ i1 → c ≠ i2 → s.heap.get? c = some o → h'.get? c = some o) → Q (some (.ref s.heap.objs.size)) { s with heap := h' }) : wpAny (model prog w) A (pyNext (.ref z)) Q E s := by
  have hT : s.TypeIs (.ref z) "zip" := ⟨_, hz, rfl⟩
  unfold pyNext
  refine wpAny_bind (wpAny_attempt (wpAny_callSpecial?_slot (name := Str.ofString "__next__") hT F.slot_zip_next (wpAny_call_entry F.slot_zip_next hT F.entry_zip_next ?_ (F.args_zip_next_1 _))))
  refine (show wpAny _ _ (field (.ref z) 2 >>= _) _ _ _ from wpAny_bind (wpAny_field hz rfl (x := .bool false) rfl ?_))
  refine (show wpAny _ _ (field (.ref z) 3 >>= _) _ _ _ from wpAny_bind (wpAny_field hz rfl (x := .ref TI) rfl (wpAny_bind (wpAny_seqItems hTI rfl ?_))))
  refine (show wpAny _ _ (Builtin.SmallTypes.ownedTupleIsFree (.ref z) >>= _) _ _ _ from wpAny_bind ?_)
  unfold Builtin.SmallTypes.ownedTupleIsFree
  refine wpAny_bind (wpAny_field hz rfl (x := .none) rfl (wpAny_pure ?_))
  simp only [if_true]
  refine wpAny_bind (wpAny_rule (wpAny_bind (wpAny_field hz rfl (x := .ref TO) rfl (wpAny_bind (wpAny_setField_rec hz (by simp) fun g1 (hz1 : IsZip g1 z TI TO .ellipsis) s1 => wpAny_bind ?_)))))
  simp only [List.zipIdx_cons, List.zipIdx_nil, List.forIn_cons, List.forIn_nil]
  refine wpAny_bind (wpAny_bind (wpAny_onRaise (show wpAny _ _ (Builtin.SmallTypes.nextOf (.ref i1) >>= _) _ _ _ from wpAny_bind ?_)))
  refine nextS_item (h1.mv fun o e => s1.extBut _ _ D.i1z e) (hl1.mv fun o e => s1.extBut _ _ D.l1z e) hx fun g2 j2 s2 => wpAny_pure ?_
  have p2 : IsPair g2 TO a c := s2.extBut _ _ D.TOi1 (s1.extBut _ _ D.TOz hTO)
  refine wpAny_bind (wpAny_seqItems p2 rfl (wpAny_bind (wpAny_updateSeq_pair p2 fun g3 (p3 : IsPair g3 TO x c) s3 => wpAny_bind (wpAny_letGo (wpAny_pure ?_)))))
  refine wpAny_bind (wpAny_bind (wpAny_onRaise (show wpAny _ _ (Builtin.SmallTypes.nextOf (.ref i2) >>= _) _ _ _ from wpAny_bind ?_)))
  refine nextS_item (h2.mv fun o e => s3.extBut _ _ D.TOi2.symm (s2.extBut _ _ D.i12.symm (s1.extBut _ _ D.i2z e))) (hl2.mv fun o e => s3.extBut _ _ D.l2TO (s2.extBut _ _ D.l2i1 (s1.extBut _ _ D.l2z e))) hy fun g4 j4 s4 => wpAny_pure ?_
  have p4 : IsPair g4 TO x c := s4.extBut _ _ D.TOi2 p3
  refine wpAny_bind (wpAny_seqItems p4 rfl (wpAny_bind (wpAny_updateSeq_pair p4 fun g5 (p5 : IsPair g5 TO x y) s5 => wpAny_bind (wpAny_letGo (wpAny_pure (wpAny_pure ?_))))))
  refine wpAny_bind (wpAny_seqItems p5 rfl (wpAny_bind (wpAny_newTuple ?_)))
  have sz : g5.objs.size = s.heap.objs.size := by rw [s5.1, s4.1, s3.1, s2.1, s1.1]
  have z5 : IsZip g5 z TI TO .ellipsis := s5.extBut _ _ D.TOz.symm (s4.extBut _ _ D.i2z.symm (s3.extBut _ _ D.TOz.symm (s2.extBut _ _ D.i1z.symm hz1)))
  have k5 : ∀ c o, c ≠ z → c ≠ TO → c ≠ i1 → c ≠ i2 → s.heap.get? c = some o → g5.get? c = some o := fun c o c1 c2 c3 c4 e => s5.extBut _ _ c2 (s4.extBut _ _ c4 (s3.extBut _ _ c2 (s2.extBut _ _ c3 (s1.extBut _ _ c1 e))))
  have j5 : SIt b1 g5 i1 l1 (k + 1) := j2.mv fun o e => s5.extBut _ _ D.TOi1.symm (s4.extBut _ _ D.i12 (s3.extBut _ _ D.TOi1.symm e))
  have m5 : SIt b2 g5 i2 l2 (k + 1) := j4.mv fun o e => s5.extBut _ _ D.TOi2.symm e
  refine (show wpAny _ _ (Builtin.SmallTypes.ownedTupleHandOut (.ref z) (.ref g5.objs.size) >>= _) _ _ _ from wpAny_bind ?_)
  unfold Builtin.SmallTypes.ownedTupleHandOut
  have z6 : IsZip (g5.push { cls := .type "tuple", data := .seq #[x, y] }) z TI TO .ellipsis := Heap.get?_push_of_some _ z5
  refine wpAny_bind (wpAny_setField_rec z6 (by simp) fun g7 (z7 : IsZip g7 z TI TO (rawInt g5.objs.size)) s7 => wpAny_setField_rec z7 (by simp) fun g8 (z8 : IsZip g8 z TI TO (rawInt g5.objs.size)) s8 => ?_)
  have up : ∀ c o, c ≠ z → g5.get? c = some o → g8.get? c = some o := fun c o c1 e => s8.extBut _ _ c1 (s7.extBut _ _ c1 (Heap.get?_push_of_some _ e))
  have zl : @LT.lt Nat _ z g5.objs.size := Heap.lt_size z5
  have t8 : IsPair g8 g5.objs.size x y := s8.extBut _ _ (Nat.ne_of_gt zl) (s7.extBut _ _ (Nat.ne_of_gt zl) (Heap.get?_push_size _ rfl))
  have sz8 : g8.objs.size = g5.objs.size + 1 := by rw [s8.1, s7.1, Heap.size_push]
  rw [sz] at z8 t8 sz8
  refine wpAny_pure ⟨_, rfl, wpAny_pure (show Q (some (.ref g5.objs.size)) _ from ?_)⟩
  rw [sz]
  exact hQ g8 z8 (up _ _ D.TOz p5) (j5.mv fun o e => up _ o D.i1z e) (m5.mv fun o e => up _ o D.i2z e) t8 sz8 fun c o c1 c2 c3 c4 e => up c o c1 (k5 c o c1 c2 c3 c4 e)
theorem zipS_end {b1 b2 : Bool} {z TI TO i1 i2 l1 l2 : Addr} {k : Nat} {xs ys : Array Value} {a c : Value} {Q : Option Value → Shared → Prop} (hh : A.handled = none) (D : ZipApart z TI TO i1 i2 l1 l2)
    (hz : IsZip s.heap z TI TO .none) (hTI : IsPair s.heap TI (.ref i1) (.ref i2)) (hTO : IsPair s.heap TO a c) (h1 : SIt b1 s.heap i1 l1 k) (h2 : SIt b2 s.heap i2 l2 k) (hl1 : SSq b1 s.heap l1 xs) (hl2 : SSq b2 s.heap l2 ys) (hend : xs[k]? = none ∨ ys[k]? = none)
    (hQ : ∀ h', (∀ c o, c ≠ z → c ≠ TO → c ≠ i1 → c ≠ i2 → s.heap.get? c = some o → h'.get? c = some o) → Q none { s with heap := h' }) : wpAny (model prog w) A (pyNext (.ref z)) Q E s := by
  have hT : s.TypeIs (.ref z) "zip" := ⟨_, hz, rfl⟩
  have stop : ∀ (h' : Heap) (e : Addr), (∀ c o, c ≠ z → c ≠ TO → c ≠ i1 → c ≠ i2 → s.heap.get? c = some o → h'.get? c = some o) → (∃ o, h'.get? e = some o ∧ o.cls = .type "StopIteration") →
      wpAny (model prog w) A (do let r ← isInstance (.ref e) (.type "StopIteration"); if r = true then pure (none : Option Value) else throw (.ref e)) Q E { s with heap := h' } := fun h' e hk ⟨o, ho, hc⟩ => by
    refine wpAny_bind (wpAny_isInstance (T := "StopIteration") (b := true) ⟨o, ho, hc⟩ isSubtype_stop ?_)
    exact wpAny_pure (hQ _ hk)
  unfold pyNext
  refine wpAny_bind (wpAny_attempt (wpAny_callSpecial?_slot (name := Str.ofString "__next__") hT F.slot_zip_next (wpAny_call_entry F.slot_zip_next hT F.entry_zip_next ?_ (F.args_zip_next_1 _))))
  refine (show wpAny _ _ (field (.ref z) 2 >>= _) _ _ _ from wpAny_bind (wpAny_field hz rfl (x := .bool false) rfl ?_))
  refine (show wpAny _ _ (field (.ref z) 3 >>= _) _ _ _ from wpAny_bind (wpAny_field hz rfl (x := .ref TI) rfl (wpAny_bind (wpAny_seqItems hTI rfl ?_))))
  refine (show wpAny _ _ (Builtin.SmallTypes.ownedTupleIsFree (.ref z) >>= _) _ _ _ from wpAny_bind ?_)
  unfold Builtin.SmallTypes.ownedTupleIsFree
  refine wpAny_bind (wpAny_field hz rfl (x := .none) rfl (wpAny_pure ?_))
  simp only [if_true]
  refine wpAny_bind (wpAny_rule (wpAny_bind (wpAny_field hz rfl (x := .ref TO) rfl (wpAny_bind (wpAny_setField_rec hz (by simp) fun g1 (hz1 : IsZip g1 z TI TO .ellipsis) s1 => wpAny_bind ?_)))))
  simp only [List.zipIdx_cons, List.zipIdx_nil, List.forIn_cons, List.forIn_nil]
  refine wpAny_bind (wpAny_bind (wpAny_onRaise (show wpAny _ _ (Builtin.SmallTypes.nextOf (.ref i1) >>= _) _ _ _ from wpAny_bind ?_)))
  cases hx : xs[k]? with
  | none =>
    refine nextS_end hh (h1.mv fun o e => s1.extBut _ _ D.i1z e) (hl1.mv fun o e => s1.extBut _ _ D.l1z e) hx fun g2 e s2 ⟨oe, hoe, hce⟩ => ?_
    have z2 : IsZip g2 z TI TO .ellipsis := s2 _ _ D.i1z.symm hz1
    have ez : e ≠ z := fun q => by subst q; rw [z2] at hoe; cases hoe; simp at hce
    exact wpAny_setField_rec z2 (by simp) fun g3 _ s3 => stop g3 e (fun c o c1 _ c3 _ q => s3.extBut _ _ c1 (s2 _ _ c3 (s1.extBut _ _ c1 q))) ⟨oe, s3.extBut _ _ ez hoe, hce⟩
  | some x =>
    have hy : ys[k]? = none := by
      rcases hend with q | q
      · rw [hx] at q; cases q
      · exact q
    refine nextS_item (h1.mv fun o e => s1.extBut _ _ D.i1z e) (hl1.mv fun o e => s1.extBut _ _ D.l1z e) hx fun g2 j2 s2 => wpAny_pure ?_
    have p2 : IsPair g2 TO a c := s2.extBut _ _ D.TOi1 (s1.extBut _ _ D.TOz hTO)
    refine wpAny_bind (wpAny_seqItems p2 rfl (wpAny_bind (wpAny_updateSeq_pair p2 fun g3 (p3 : IsPair g3 TO x c) s3 => wpAny_bind (wpAny_letGo (wpAny_pure ?_)))))
    refine wpAny_bind (wpAny_bind (wpAny_onRaise (show wpAny _ _ (Builtin.SmallTypes.nextOf (.ref i2) >>= _) _ _ _ from wpAny_bind ?_)))
    refine nextS_end hh (h2.mv fun o e => s3.extBut _ _ D.TOi2.symm (s2.extBut _ _ D.i12.symm (s1.extBut _ _ D.i2z e))) (hl2.mv fun o e => s3.extBut _ _ D.l2TO (s2.extBut _ _ D.l2i1 (s1.extBut _ _ D.l2z e))) hy fun g4 e s4 ⟨oe, hoe, hce⟩ => ?_
    have z4 : IsZip g4 z TI TO .ellipsis := s4 _ _ D.i2z.symm (s3.extBut _ _ D.TOz.symm (s2.extBut _ _ D.i1z.symm hz1))
    have ez : e ≠ z := fun q => by subst q; rw [z4] at hoe; cases hoe; simp at hce
    exact wpAny_setField_rec z4 (by simp) fun g5 _ s5 => stop g5 e (fun c o c1 c2 c3 c4 q => s5.extBut _ _ c1 (s4 _ _ c4 (s3.extBut _ _ c2 (s2.extBut _ _ c3 (s1.extBut _ _ c1 q))))) ⟨oe, s5.extBut _ _ ez hoe, hce⟩
end
end L2
namespace L2
open PySem PySem.Spec PyProof.Rows
noncomputable instance decPD : DecidableEq PyData := fun _ _ => Classical.propDecidable _
mutual
def keyD : PyData → Bool
  | .int _ => true
  | .str x => PyData.strOk x
  | .tuple xs => keyDs xs
  | _ => false
def keyDs : List PyData → Bool
  | [] => true
  | x :: xs => keyD x && keyDs xs
end
mutual
theorem keyD_lay : ∀ d, keyD d = true → d.canLay0 = true
  | .int _, _ => by rw [PyData.canLay0]
  | .str x, h => by rw [keyD] at h; rw [PyData.canLay0]; exact h
  | .tuple xs, h => by rw [keyD] at h; rw [PyData.canLay0]; exact keyDs_lay xs h
  | .none, h => by simp [keyD] at h
  | .bool _, h => by simp [keyD] at h
  | .list _, h => by simp [keyD] at h
  | .dict _, h => by simp [keyD] at h
theorem keyDs_lay : ∀ xs, keyDs xs = true → PyData.canLayAll0 xs = true
  | [], _ => by rw [PyData.canLayAll0]
  | x :: xs, h => by
    rw [keyDs, Bool.and_eq_true] at h
    rw [PyData.canLayAll0, keyD_lay x h.1, keyDs_lay xs h.2]
    rfl
end
mutual
theorem eqv_key : ∀ x y, keyD x = true → keyD y = true → PyData.eqv x y = decide (x = y)
  | .int i, y, _, hy => by
    cases y with
    | int j =>
      rw [PyData.eqv]
      by_cases e : i = j
      · rw [e, decide_eq_true rfl]; exact beq_self_eq_true j
      · rw [decide_eq_false fun z => e (PyData.int.inj z)]; exact beq_eq_false_iff_ne.mpr e
    | str x => rw [PyData.eqv, decide_eq_false (by intro z; cases z)]
    | tuple x => rw [PyData.eqv, decide_eq_false (by intro z; cases z)]
    | _ => simp [keyD] at hy
  | .str i, y, _, hy => by
    cases y with
    | str j =>
      rw [PyData.eqv]
      by_cases e : i = j
      · rw [e, decide_eq_true rfl]; exact beq_self_eq_true j
      · rw [decide_eq_false fun z => e (PyData.str.inj z)]; exact beq_eq_false_iff_ne.mpr e
    | int x => rw [PyData.eqv, decide_eq_false (by intro z; cases z)]
    | tuple x => rw [PyData.eqv, decide_eq_false (by intro z; cases z)]
    | _ => simp [keyD] at hy
  | .tuple xs, y, hx, hy => by
    cases y with
    | tuple ys =>
      rw [keyD] at hx hy
      rw [PyData.eqv, eqvAll_key xs ys hx hy]
      by_cases e : xs = ys
      · rw [e, decide_eq_true rfl, decide_eq_true rfl]
      · rw [decide_eq_false e, decide_eq_false fun z => e (PyData.tuple.inj z)]
    | int x => rw [PyData.eqv, decide_eq_false (by intro z; cases z)]
    | str x => rw [PyData.eqv, decide_eq_false (by intro z; cases z)]
    | _ => simp [keyD] at hy
  | .none, _, h, _ => by simp [keyD] at h
  | .bool _, _, h, _ => by simp [keyD] at h
  | .list _, _, h, _ => by simp [keyD] at h
  | .dict _, _, h, _ => by simp [keyD] at h
theorem eqvAll_key : ∀ xs ys, keyDs xs = true → keyDs ys = true → PyData.eqvAll xs ys = decide (xs = ys)
  | [], [], _, _ => by rw [PyData.eqvAll, decide_eq_true rfl]
  | [], y :: ys, _, _ => by rw [PyData.eqvAll, decide_eq_false (by intro z; cases z)]
  | x :: xs, [], _, _ => by rw [PyData.eqvAll, decide_eq_false (by intro z; cases z)]
  | x :: xs, y :: ys, hx, hy => by
    rw [keyDs, Bool.and_eq_true] at hx hy
    rw [PyData.eqvAll, eqv_key x y hx.1 hy.1, eqvAll_key xs ys hx.2 hy.2]
    by_cases e : x = y
    · by_cases e2 : xs = ys
      · rw [e, e2, decide_eq_true rfl, decide_eq_true rfl, decide_eq_true rfl]; rfl
      · rw [decide_eq_false e2, Bool.and_false, decide_eq_false fun z => e2 (List.cons.inj z).2]
    · rw [decide_eq_false e, Bool.false_and, decide_eq_false fun z => e (List.cons.inj z).1]
end
section
variable (w : World)
mutual
def hashD : PyData → Int
  | .int i => hashInt i
  | .str x => hashStr w x
  | .tuple xs => reduceHash (Builtin.Tuple.tupleHashOf (hashDs xs))
  | _ => 0
def hashDs : List PyData → List Int
  | [] => []
  | x :: xs => hashD x :: hashDs xs
end
end
mutual
def drawD : PyData → Nat
  | .tuple xs => drawDs xs + 1
  | .int _ => 1
  | .str _ => 1
  | .none => 1
  | .bool _ => 1
  | .list _ => 1
  | .dict _ => 1
def drawDs : List PyData → Nat
  | [] => 0
  | x :: xs => drawD x + drawDs xs
end
section
variable {prog : Program} {w : World}
theorem keyReads_get {h h' : Heap} {d : Addr} {o : Obj} {es ep} (ho : h.get? d = some o) (hd : o.data = .dict es ep) (hs : Heap.SameBut d h h') {a : Addr} {u : Obj} {vs n} (e : h.get? a = some u) (eu : u.data = .seq vs n) : h'.get? a = some u := by
  refine (hs.2 a ?_).trans e
  rintro rfl
  rw [ho] at e
  cases e
  rw [hd] at eu
  cases eu
mutual
theorem keyReads_keeps {h h' : Heap} {d : Addr} {o : Obj} {es ep} (ho : h.get? d = some o) (hd : o.data = .dict es ep) (hs : Heap.SameBut d h h') :
    ∀ (k : PyData) (v : Value) (as : List Addr), keyD k = true → Reads h v k as → Reads h' v k as
  | .int i, v, as, _, r => by cases r; exact .int _ _
  | .str i, v, as, _, r => by cases r; exact .str _ _
  | .tuple xs, v, as, hk, r => by
    rw [keyD] at hk
    cases r with
    | tuple h1 h2 h3 h4 => exact .tuple (keyReads_get ho hd hs h1 h3) h2 h3 (keyReadsAll_keeps ho hd hs xs _ _ hk h4)
  | .none, _, _, h, _ => by simp [keyD] at h
  | .bool _, _, _, h, _ => by simp [keyD] at h
  | .list _, _, _, h, _ => by simp [keyD] at h
  | .dict _, _, _, h, _ => by simp [keyD] at h
theorem keyReadsAll_keeps {h h' : Heap} {d : Addr} {o : Obj} {es ep} (ho : h.get? d = some o) (hd : o.data = .dict es ep) (hs : Heap.SameBut d h h') :
    ∀ (k : List PyData) (v : List Value) (as : List Addr), keyDs k = true → ReadsAll h v k as → ReadsAll h' v k as
  | [], v, as, _, r => by cases r; exact .nil
  | x :: xs, v, as, hk, r => by
    rw [keyDs, Bool.and_eq_true] at hk
    cases r with
    | cons r rs => exact .cons (keyReads_keeps ho hd hs x _ _ hk.1 r) (keyReadsAll_keeps ho hd hs xs _ _ hk.2 rs)
end
theorem keyHash : ∀ (nn : Nat) (d : PyData) (A : Around) (E : Value → Shared → Prop) (s : Shared) (v : Value) (as : List Addr) (Q : Int → Shared → Prop), keyD d = true → d.depth ≤ nn → A.units + d.depth < cLine → Reads s.heap v d as →
    Q (hashD w d) { s with toks := s.toks + drawD d } → wpAny (model prog w) A (PySem.pyHash v) Q E s
  | nn, .int i, A, E, s, v, as, Q, _, _, _, r, h => by
    cases r with
    | int i t =>
      rw [hashD, drawD] at h
      exact (mixKind prog w).pyHash (mixKind_int prog w i t) h
  | nn, .str i, A, E, s, v, as, Q, _, _, _, r, h => by
    cases r with
    | str i t =>
      rw [hashD, drawD] at h
      exact (mixKind prog w).pyHash (mixKind_str prog w i t) h
  | 0, .tuple ks, A, E, s, v, as, Q, hk, hn, hu, r, h => by
    rw [PyData.depth] at hn
    omega
  | nn + 1, .tuple ks, A, E, s, v, as, Q, hk, hn, hu, r, h => by
    rw [keyD] at hk
    rw [PyData.depth] at hu hn
    rw [hashD, drawD] at h
    cases r with
    | @tuple a o items n xs as' ho hc hd hi =>
      have hT : s.TypeIs (.ref a) "tuple" := ⟨o, ho, hc⟩
      unfold PySem.pyHash
      first | unfold pyHashByItsType | skip
      first | refine wpAny_bind (wpAny_cRoomFor_or (.inr (by omega)) ?_) | skip
      refine wpAny_bind (wpAny_specialOf hT F.slot_tuple_hash.lookup ?_)
      show wpAny _ _ (if (some (Value.builtin "tuple.__hash__") == some Value.none) = true then _ else _) Q E s
      rw [if_neg (by rw [beq_builtin_none]; exact Bool.false_ne_true)]
      refine wpAny_bind (wpAny_specialOf hT F.slot_tuple_hash.lookup ?_)
      show wpAny _ _ (callSpecialIfBoundUnlessNone? (.ref a) "__hash__" _ >>= _) Q E s
      refine wpAny_bind (wpAny_callSpecialIfBoundUnlessNone?_slot hT F.slot_tuple_hash (wpAny_call_entry F.slot_tuple_hash hT F.entry_tuple_hash ?_ (F.args_tuple_hash_1 _)))
      show wpAny _ _ (Builtin.Tuple.tupleItemsOf (.ref a) >>= _) _ _ s
      refine wpAny_bind (wpAny_tupleItemsOf ho hd ?_)
      refine wpAny_bind ?_
      rw [← Array.forIn_toList]
      refine wpAny_forIn_list _
        (fun rest (b : Array Int) s' => ∃ (left : List PyData) (lb : List Addr) (m : Nat), keyDs left = true ∧ PyData.depthAll left ≤ PyData.depthAll ks ∧ ReadsAll s.heap rest left lb ∧ b.toList ++ hashDs w left = hashDs w ks ∧ m + drawDs left = drawDs ks ∧ s' = { s with toks := s.toks + m })
        _ ?_ ?_ _ _ ⟨ks, _, 0, hk, Nat.le_refl _, hi, rfl, Nat.zero_add _, rfl⟩
      · rintro x rest b s' ⟨left, lb, m, hl, hdp, hr, hb, hm, rfl⟩
        cases hr with
        | @cons _ _ d ds _ _ r1 rs =>
          rw [keyDs, Bool.and_eq_true] at hl
          rw [PyData.depthAll] at hdp
          rw [hashDs] at hb
          rw [drawDs] at hm
          refine wpAny_bind (keyHash nn d _ _ _ _ _ _ hl.1 (by omega) ?_ r1 ?_)
          · show A.units + 1 + d.depth < cLine
            omega
          · first
              | exact wpAny_pure ⟨ds, _, m + drawD d, hl.2, by omega, rs, by simp [← hb], by omega, by simp [Nat.add_assoc]⟩
              | exact wpAny_bind (wpAny_pure (wpAny_pure ⟨ds, _, m + drawD d, hl.2, by omega, rs, by simp [← hb], by omega, by simp [Nat.add_assoc]⟩))
      · rintro b s' ⟨left, lb, m, hl, hdp, hr, hb, hm, rfl⟩
        cases hr
        rw [hashDs, List.append_nil] at hb
        rw [drawDs, Nat.add_zero] at hm
        subst hm
        show wpAny _ _ (retInt (Builtin.Tuple.tupleHashOf b.toList)) _ _ _
        rw [hb]
        refine wpAny_ret_mkInt ?_
        show wpAny _ _ (if (decide (-(2 : Int) ^ 63 ≤ Builtin.Tuple.tupleHashOf (hashDs w ks)) && decide (Builtin.Tuple.tupleHashOf (hashDs w ks) < 2 ^ 63)) = true then _ else _) Q E _
        unfold reduceHash at h
        by_cases hr : (decide (-(2 : Int) ^ 63 ≤ Builtin.Tuple.tupleHashOf (hashDs w ks)) && decide (Builtin.Tuple.tupleHashOf (hashDs w ks) < 2 ^ 63)) = true
        · rw [if_pos hr]
          rw [if_pos hr] at h
          exact wpAny_pure (by simpa [Nat.add_assoc] using h)
        · rw [if_neg hr]
          rw [if_neg hr] at h
          exact wpAny_bind (wpAny_rule (wpAny_pure (by simpa [Nat.add_assoc] using h)))
  | _, .none, _, _, _, _, _, _, h, _, _, _, _ => by simp [keyD] at h
  | _, .bool _, _, _, _, _, _, _, h, _, _, _, _ => by simp [keyD] at h
  | _, .list _, _, _, _, _, _, _, h, _, _, _, _ => by simp [keyD] at h
  | _, .dict _, _, _, _, _, _, _, h, _, _, _, _ => by simp [keyD] at h
theorem keyQuiet {A : Around} {E : Value → Shared → Prop} : ∀ (n : Nat) (d : PyData) (s : Shared) (v : Value) (as : List Addr) (Q : Bool → Shared → Prop), keyD d = true → d.depth ≤ n → Reads s.heap v d as → Q true s → wpAny (model prog w) A (eqIsQuiet n v) Q E s
  | n, .int i, s, v, as, Q, _, _, r, h => by
    cases r with
    | int i t => rw [eqIsQuiet_byValue n rfl]; exact wpAny_pure h
  | n, .str i, s, v, as, Q, _, _, r, h => by
    cases r with
    | str i t => rw [eqIsQuiet_byValue n rfl]; exact wpAny_pure h
  | 0, .tuple ks, s, v, as, Q, hk, hu, r, h => by
    rw [PyData.depth] at hu
    omega
  | n + 1, .tuple ks, s, v, as, Q, hk, hu, r, h => by
    rw [keyD] at hk
    rw [PyData.depth] at hu
    cases r with
    | @tuple a o items m xs as' ho hc hd hi =>
      have hT : s.TypeIs (.ref a) "tuple" := ⟨o, ho, hc⟩
      unfold eqIsQuiet
      refine wpAny_bind (wpAny_specialOf hT F.slot_tuple_eq.lookup ?_)
      show wpAny _ _ (isInstance (.ref a) (.type "tuple") >>= _) _ _ s
      refine wpAny_bind (wpAny_isInstance hT isSubtype_tuple_tuple ?_)
      simp only [Bool.not_true, Bool.false_eq_true, if_false]
      refine wpAny_bind (wpAny_seqItems ho hd ?_)
      refine wpAny_bind ?_
      show wpAny _ _ (forIn items _ _) _ _ s
      rw [← Array.forIn_toList]
      refine wpAny_forIn_list _ (fun rest r s' => r.1 = none ∧ s' = s ∧ ∃ (left : List PyData) (lb : List Addr), keyDs left = true ∧ PyData.depthAll left ≤ n ∧ ReadsAll s.heap rest left lb) _ ?_ ?_ _ _ ⟨rfl, rfl, ks, _, hk, by omega, hi⟩
      · rintro v rest r s' ⟨hr, rfl, left, lb, hl, hdp, hrd⟩
        cases hrd with
        | @cons _ _ d ds _ _ r1 rs =>
          rw [keyDs, Bool.and_eq_true] at hl
          rw [PyData.depthAll] at hdp
          refine wpAny_bind (keyQuiet n d _ _ _ _ hl.1 (by omega) r1 ?_)
          simp only [Bool.not_true, Bool.false_eq_true, if_false]
          exact wpAny_pure ⟨rfl, rfl, ds, _, hl.2, by omega, rs⟩
      · rintro ⟨r1, r2⟩ s' ⟨hr, rfl, _⟩
        simp only at hr
        subst hr
        exact wpAny_pure h
  | _, .none, _, _, _, _, h, _, _, _ => by simp [keyD] at h
  | _, .bool _, _, _, _, _, h, _, _, _ => by simp [keyD] at h
  | _, .list _, _, _, _, _, h, _, _, _ => by simp [keyD] at h
  | _, .dict _, _, _, _, _, h, _, _, _ => by simp [keyD] at h
noncomputable def pdKind (prog : Program) (w : World) : HeapKind prog w PyData where
  is := fun h d a => keyD d = true ∧ d.depth ≤ 8 ∧ ∃ as, Reads h (.ref a) d as
  hash := hashD w
  draws := drawD
  room := fun A => A.units + 8 < cLine
  inj := fun x y => by
    obtain ⟨_, _, as, r⟩ := x
    obtain ⟨_, _, bs, q⟩ := y
    exact (r.unique _ _ q).1
  keeps := fun x ho hd hs => by
    obtain ⟨h1, h2, as, r⟩ := x
    exact ⟨h1, h2, as, keyReads_keeps ho hd hs _ _ _ h1 r⟩
  pyHash := fun hu x h => by
    obtain ⟨h1, h2, as, r⟩ := x
    exact keyHash 8 _ _ _ _ _ _ _ h1 h2 (by omega) r h
  eqBool := fun {A E s x y a b Q} hu kx ky h => by
    obtain ⟨h1, h2, as, r⟩ := kx
    obtain ⟨g1, g2, bs, q⟩ := ky
    refine SeqAt.eqAt_reads x y A s _ _ as bs r q (keyD_lay x h1) (keyD_lay y g1) (by omega) prog w E Q ?_
    rw [eqv_key x y h1 g1]
    exact h
  quiet := fun x h => by
    obtain ⟨h1, h2, as, r⟩ := x
    exact keyQuiet 8 _ _ _ _ _ h1 h2 r h
end
end L2
namespace DL
open PySem PySem.Spec L2
inductive D where
  | non | bl (b : Bool) | int (i : Int) | str (x : Str) | tup (l : List D) | lst (l : List D) | dct (ks vs : List D) | exc (c : Str) | scr (ns : List Int)
inductive R (α : Type) where
  | ok (a : α) | rse (c : Str) | bad
def R.bind {α β : Type} (r : R α) (k : α → R β) : R β := match r with
  | .ok a => k a
  | .rse c => .rse c
  | .bad => .bad
theorem R.ok_bind {α β : Type} (a : α) (k : α → R β) : (R.ok a).bind k = k a := rfl
abbrev Ev := List (Option D)
mutual
def toP : D → PyData
  | .non => .none
  | .bl b => .bool b
  | .int i => .int i
  | .str x => .str x
  | .tup l => .tuple (toPs l)
  | .lst l => .list (toPs l)
  | .dct _ _ => .none
  | .exc _ => .none
  | .scr _ => .none
def toPs : List D → List PyData
  | [] => []
  | d :: l => toP d :: toPs l
end
def okKey : D → Bool
  | .tup l => keyDs (toPs l) && decide (PyData.depthAll (toPs l) ≤ 7)
  | _ => false
def DictX (w : World) (a : Addr) (ys : List (PyData × Addr × Value)) (h : Heap) : Prop := ys.length ≤ sizeLine ∧ (a == sysModules) = false ∧
  ∃ o es ep, h.get? a = some o ∧ o.ExactDict ∧ o.data = .dict es ep ∧ es.toList = ys.map (fun x => (⟨hashD w x.1, .ref x.2.1, x.2.2⟩ : DictEntry)) ∧ (ys.map (·.1)).Nodup
def DctO (w : World) (o : Option HO) (a : Addr) (ks : List D) (ys : List (PyData × Addr × Value)) : Prop := o = some (.ext (DictX w a ys)) ∧ ys.map (·.1) = toPs ks ∧ ks.all okKey = true
mutual
def IsD (K : PySem.W.Frag) (mg : Str → Option Value) (ww : World) (H : Hp) : D → V → Prop
  | .non, v => v = .non
  | .bl b, v => v = .bl b
  | .int i, v => v = .int i
  | .str x, v => v = .str x
  | .tup ds, v => ∃ a xs, v = .ref a ∧ SqT K H a xs ∧ IsDs K mg ww H ds xs
  | .lst ds, v => ∃ a xs, v = .ref a ∧ H a = some (.lst xs) ∧ IsDs K mg ww H ds xs
  | .dct ks vs, v => ∃ a ys xs, v = .ref a ∧ DctO ww (H a) a ks ys ∧ IsDs K mg ww H ks (ys.map fun y => V.ref y.2.1) ∧ Vals xs (ys.map (·.2.2)) ∧ IsDs K mg ww H vs xs
  | .exc c, v => ∃ ea C, v = .ref ea ∧ mg c = some (.ref C) ∧ H ea = some (.ext (ExcAt ea C))
  | .scr ns, v => ∃ a, v = .ref a ∧ SqL K H a (ns.map V.int)
def IsDs (K : PySem.W.Frag) (mg : Str → Option Value) (ww : World) (H : Hp) : List D → List V → Prop
  | [], xs => xs = []
  | d :: ds, xs => ∃ x r, xs = x :: r ∧ IsD K mg ww H d x ∧ IsDs K mg ww H ds r
end
section
variable {K : PySem.W.Frag} {mg : Str → Option Value} {ww : World} {H H' : Hp}
theorem DctO.same {ks : List D} {ys : List (PyData × Addr × Value)} {a : Addr} (e : Same H H') (h : DctO ww (H a) a ks ys) : DctO ww (H' a) a ks ys := ⟨e _ _ h.1, h.2⟩
mutual
theorem IsD.same (e : Same H H') : ∀ (d : D) (x : V), IsD K mg ww H d x → IsD K mg ww H' d x
  | .non, x, h => by rw [IsD] at h ⊢; exact h
  | .bl b, x, h => by rw [IsD] at h ⊢; exact h
  | .int i, x, h => by rw [IsD] at h ⊢; exact h
  | .str y, x, h => by rw [IsD] at h ⊢; exact h
  | .tup ds, x, h => by
    rw [IsD] at h ⊢
    obtain ⟨a, xs, rfl, hq, hd⟩ := h
    exact ⟨a, xs, rfl, e.seqT hq, IsDs.same e ds xs hd⟩
  | .lst ds, x, h => by
    rw [IsD] at h ⊢
    obtain ⟨a, xs, rfl, hq, hd⟩ := h
    exact ⟨a, xs, rfl, e _ _ hq, IsDs.same e ds xs hd⟩
  | .dct ks vs, x, h => by
    rw [IsD] at h ⊢
    obtain ⟨a, ys, xs, rfl, hq, hk, hv, hd⟩ := h
    exact ⟨a, ys, xs, rfl, hq.same e, IsDs.same e ks _ hk, hv, IsDs.same e vs xs hd⟩
  | .exc c, x, h => by
    rw [IsD] at h ⊢
    obtain ⟨a, C, rfl, hq, hd⟩ := h
    exact ⟨a, C, rfl, hq, e _ _ hd⟩
  | .scr ns, x, h => by
    rw [IsD] at h ⊢
    obtain ⟨a, rfl, hq⟩ := h
    exact ⟨a, rfl, e.seq hq⟩
theorem IsDs.same (e : Same H H') : ∀ (ds : List D) (xs : List V), IsDs K mg ww H ds xs → IsDs K mg ww H' ds xs
  | [], xs, h => by rw [IsDs] at h ⊢; exact h
  | d :: ds, xs, h => by
    rw [IsDs] at h ⊢
    obtain ⟨x, r, rfl, hd, hds⟩ := h
    exact ⟨x, r, rfl, IsD.same e d x hd, IsDs.same e ds r hds⟩
end
theorem IsDs.len : ∀ {ds : List D} {xs : List V}, IsDs K mg ww H ds xs → xs.length = ds.length
  | [], xs, h => by rw [IsDs] at h; rw [h]; rfl
  | d :: ds, xs, h => by
    rw [IsDs] at h
    obtain ⟨x, r, rfl, _, hds⟩ := h
    rw [List.length_cons, List.length_cons, IsDs.len hds]
theorem IsDs.at : ∀ {ds : List D} {xs : List V} {i : Nat} {x : V}, IsDs K mg ww H ds xs → xs[i]? = some x → ∃ d, ds[i]? = some d ∧ IsD K mg ww H d x
  | [], xs, i, x, h, e => by rw [IsDs] at h; subst h; simp at e
  | d :: ds, xs, i, x, h, e => by
    rw [IsDs] at h
    obtain ⟨y, r, rfl, hd, hds⟩ := h
    cases i with
    | zero => simp at e; subst e; exact ⟨d, rfl, hd⟩
    | succ i =>
      obtain ⟨d', h1, h2⟩ := IsDs.at (i := i) hds (by simpa using e)
      exact ⟨d', by simpa using h1, h2⟩
theorem IsDs.atD : ∀ {ds : List D} {xs : List V} {i : Nat} {d : D}, IsDs K mg ww H ds xs → ds[i]? = some d → ∃ x, xs[i]? = some x ∧ IsD K mg ww H d x
  | [], xs, i, x, h, e => by simp at e
  | d :: ds, xs, i, x, h, e => by
    rw [IsDs] at h
    obtain ⟨y, r, rfl, hd, hds⟩ := h
    cases i with
    | zero => simp at e; subst e; exact ⟨y, rfl, hd⟩
    | succ i =>
      obtain ⟨d', h1, h2⟩ := IsDs.atD (i := i) hds (by simpa using e)
      exact ⟨d', by simpa using h1, h2⟩
theorem IsDs.append : ∀ {ds es : List D} {xs ys : List V}, IsDs K mg ww H ds xs → IsDs K mg ww H es ys → IsDs K mg ww H (ds ++ es) (xs ++ ys)
  | [], es, xs, ys, h, k => by rw [IsDs] at h; subst h; exact k
  | d :: ds, es, xs, ys, h, k => by
    rw [IsDs] at h
    obtain ⟨x, r, rfl, hd, hds⟩ := h
    show IsDs K mg ww H (d :: (ds ++ es)) (x :: (r ++ ys))
    rw [IsDs]
    exact ⟨x, _, rfl, hd, IsDs.append hds k⟩
theorem IsDs.take : ∀ (n : Nat) {ds : List D} {xs : List V}, IsDs K mg ww H ds xs → IsDs K mg ww H (ds.take n) (xs.take n)
  | 0, ds, xs, h => by rw [List.take_zero, List.take_zero, IsDs]
  | n + 1, [], xs, h => by rw [IsDs] at h; subst h; rw [List.take_nil, List.take_nil, IsDs]
  | n + 1, d :: ds, xs, h => by
    rw [IsDs] at h
    obtain ⟨x, r, rfl, hd, hds⟩ := h
    rw [List.take_succ_cons, List.take_succ_cons, IsDs]
    exact ⟨x, _, rfl, hd, IsDs.take n hds⟩
theorem IsDs.drop : ∀ (n : Nat) {ds : List D} {xs : List V}, IsDs K mg ww H ds xs → IsDs K mg ww H (ds.drop n) (xs.drop n)
  | 0, ds, xs, h => h
  | n + 1, [], xs, h => by rw [IsDs] at h; subst h; rw [List.drop_nil, List.drop_nil, IsDs]
  | n + 1, d :: ds, xs, h => by
    rw [IsDs] at h
    obtain ⟨x, r, rfl, hd, hds⟩ := h
    exact IsDs.drop n hds
theorem IsDs.nil : IsDs K mg ww H [] [] := by rw [IsDs]
theorem IsDs.cons {d : D} {ds : List D} {x : V} {xs : List V} (h : IsD K mg ww H d x) (k : IsDs K mg ww H ds xs) : IsDs K mg ww H (d :: ds) (x :: xs) := by
  rw [IsDs]
  exact ⟨x, xs, rfl, h, k⟩
theorem IsDs.uncons {d : D} {ds : List D} {xs : List V} (h : IsDs K mg ww H (d :: ds) xs) : ∃ x r, xs = x :: r ∧ IsD K mg ww H d x ∧ IsDs K mg ww H ds r := by
  rw [IsDs] at h
  exact h
theorem IsDs.nil' {xs : List V} (h : IsDs K mg ww H [] xs) : xs = [] := by
  rw [IsDs] at h
  exact h
theorem isDs_ints : ∀ ns : List Int, IsDs K mg ww H (ns.map D.int) (ns.map V.int)
  | [] => IsDs.nil
  | n :: ns => IsDs.cons (by rw [IsD]) (isDs_ints ns)
end
def hide (os : List Addr) (H : Hp) : Hp := fun b => if b ∈ os then none else H b
theorem hide_some {os : List Addr} {H : Hp} {b : Addr} {o : HO} : hide os H b = some o ↔ b ∉ os ∧ H b = some o := by
  unfold hide
  by_cases h : b ∈ os
  · rw [if_pos h]
    exact ⟨fun z => (by cases z), fun z => absurd h z.1⟩
  · rw [if_neg h]
    exact ⟨fun z => ⟨h, z⟩, fun z => z.2⟩
theorem hide_le {os : List Addr} {H : Hp} : Same (hide os H) H := fun _ _ h => (hide_some.mp h).2
theorem hide_mono {os : List Addr} {H H' : Hp} (e : Same H H') : Same (hide os H) (hide os H') := fun _ _ h => hide_some.mpr ⟨(hide_some.mp h).1, e _ _ (hide_some.mp h).2⟩
theorem hide_sub {os os' : List Addr} {H : Hp} (h : ∀ a ∈ os, a ∈ os') : Same (hide os' H) (hide os H) := fun b _ z => hide_some.mpr ⟨fun q => (hide_some.mp z).1 (h b q), (hide_some.mp z).2⟩
theorem hide_nil {H : Hp} : Same H (hide [] H) := fun _ _ z => hide_some.mpr ⟨by simp, z⟩
theorem hide_new {os : List Addr} {H H' : Hp} {a : Addr} (e : Same H H') (h : H a = none) : Same (hide os H) (hide (a :: os) H') := fun b o z => by
  obtain ⟨z1, z2⟩ := hide_some.mp z
  refine hide_some.mpr ⟨fun q => ?_, e _ _ z2⟩
  rcases List.mem_cons.mp q with q | q
  · rw [q, h] at z2
    cases z2
  · exact z1 q
section
variable (K : PySem.W.Frag) (mg : Str → Option Value) (ww : World)
def ObjD (Hh : Hp) (a : Addr) (o : Option HO) : D → Prop
  | .lst ds => ∃ xs, o = some (.lst xs) ∧ IsDs K mg ww Hh ds xs
  | .dct ks vs => ∃ ys xs, DctO ww o a ks ys ∧ IsDs K mg ww Hh ks (ys.map fun y => V.ref y.2.1) ∧ Vals xs (ys.map (·.2.2)) ∧ IsDs K mg ww Hh vs xs
  | _ => False
inductive Md where
  | d | b | f
def Rep (md : Md) (H0 : Hp) (os : List Addr) (H' : Hp) (d : D) (v : V) : Prop := match md with
  | .d => IsD K mg ww (hide os H') d v
  | .b => IsD K mg ww (hide os H') d v ∨ ∃ a, v = .ref a ∧ a ∈ os ∧ ObjD K mg ww (hide os H') a (H' a) d
  | .f => ∃ a, v = .ref a ∧ H0 a = none ∧ ObjD K mg ww (hide (a :: os) H') a (H' a) d
def Out (md : Md) (E : XK) (os : List Addr) (H : Hp) (r : R D) (Q : VK) : Prop := match r with
  | .ok d => ∀ v H', Same H H' → Rep K mg ww md H os H' d v → Q v H'
  | .rse c => ∃ C, mg c = some (.ref C) ∧ ∀ H', Same H H' → E (.ref C) none H'
  | .bad => False
def OutT (E : XK) (H : Hp) (r : R Bool) (Q : Bool → Hp → Prop) : Prop := match r with
  | .ok b => ∀ H', Same H H' → Q b H'
  | .rse c => ∃ C, mg c = some (.ref C) ∧ ∀ H', Same H H' → E (.ref C) none H'
  | .bad => False
def OutA (md : Md) (E : XK) (os : List Addr) (H : Hp) (r : R (List D)) (Q : List V → Hp → Prop) : Prop := match r with
  | .ok ds => ∀ vs H', Same H H' → Paired (Rep K mg ww md H' os H') ds vs → Q vs H'
  | .rse c => ∃ C, mg c = some (.ref C) ∧ ∀ H', Same H H' → E (.ref C) none H'
  | .bad => False
structure Hd (ow : List Bool) (os : List Addr) (H : Hp) (σ : St) (ρ : Ev) : Prop where
  len : σ.length = ρ.length
  dom : ∀ a ∈ os, H a ≠ none
  imm : ∀ i d, ow.getD i false = false → ρ[i]? = some (some d) → ∃ v, σ[i]? = some (some v) ∧ IsD K mg ww (hide os H) d v
  own : ∀ i d, ow.getD i false = true → ρ[i]? = some (some d) → ∃ a, σ[i]? = some (some (.ref a)) ∧ a ∈ os ∧ ObjD K mg ww (hide os H) a (H a) d
  apart : ∀ i j a d e, i ≠ j → ow.getD i false = true → ow.getD j false = true → ρ[i]? = some (some d) → ρ[j]? = some (some e) → σ[i]? = some (some (.ref a)) → σ[j]? = some (some (.ref a)) → False
def tE (md : Md) (E : XK) (ow : List Bool) (m : Ev → R D) : TE := fun σ H Q => ∃ os ρ, Hd K mg ww ow os H σ ρ ∧ Out K mg ww md E os H (m ρ) Q
def tT (E : XK) (ow : List Bool) (m : Ev → R Bool) : TT := fun σ H Q => ∃ os ρ, Hd K mg ww ow os H σ ρ ∧ OutT mg E H (m ρ) Q
def tA (md : Md) (E : XK) (ow : List Bool) (m : Ev → R (List D)) : TA := fun σ H Q => ∃ os ρ, Hd K mg ww ow os H σ ρ ∧ OutA K mg ww md E os H (m ρ) Q
end
section
variable {K : PySem.W.Frag} {mg : Str → Option Value} {ww : World} {ow : List Bool} {os : List Addr} {H H' H0 : Hp} {σ : St} {ρ : Ev} {E : XK} {md md' : Md}
theorem ObjD.same {Hh Hh' : Hp} {a : Addr} {o : Option HO} (e : Same Hh Hh') : ∀ {d : D}, ObjD K mg ww Hh a o d → ObjD K mg ww Hh' a o d
  | .lst ds, ⟨xs, h1, h2⟩ => ⟨xs, h1, IsDs.same e ds xs h2⟩
  | .dct ks vs, ⟨ys, xs, h1, h2, h3, h4⟩ => ⟨ys, xs, h1, IsDs.same e ks _ h2, h3, IsDs.same e vs xs h4⟩
theorem ObjD.ex {Hh : Hp} {a : Addr} {o : Option HO} : ∀ {d : D}, ObjD K mg ww Hh a o d → ∃ u, o = some u
  | .lst ds, ⟨xs, h1, h2⟩ => ⟨_, h1⟩
  | .dct ks vs, ⟨ys, xs, h1, h2⟩ => ⟨_, h1.1⟩
theorem ObjD.to {Hh : Hp} {a : Addr} {os : List Addr} (ha : a ∉ os) (e : Same Hh (hide os H)) : ∀ {d : D}, ObjD K mg ww Hh a (H a) d → IsD K mg ww (hide os H) d (.ref a)
  | .lst ds, ⟨xs, h1, h2⟩ => by
    rw [IsD]
    exact ⟨a, xs, rfl, hide_some.mpr ⟨ha, h1⟩, IsDs.same e ds xs h2⟩
  | .dct ks vs, ⟨ys, xs, h1, h2, h3, h4⟩ => by
    rw [IsD]
    exact ⟨a, ys, xs, rfl, ⟨hide_some.mpr ⟨ha, h1.1⟩, h1.2⟩, IsDs.same e ks _ h2, h3, IsDs.same e vs xs h4⟩
theorem Hd.same (h : Hd K mg ww ow os H σ ρ) (e : Same H H') : Hd K mg ww ow os H' σ ρ where
  len := h.len
  dom := fun a ha => by
    cases q : H a with
    | none => exact absurd q (h.dom a ha)
    | some o => rw [e _ _ q]; simp
  imm := fun i d h1 h2 => by
    obtain ⟨v, z1, z2⟩ := h.imm i d h1 h2
    exact ⟨v, z1, IsD.same (hide_mono e) d v z2⟩
  own := fun i d h1 h2 => by
    obtain ⟨a, z1, z2, z3⟩ := h.own i d h1 h2
    refine ⟨a, z1, z2, ?_⟩
    obtain ⟨u, hu⟩ := z3.ex
    rw [e _ _ hu, ← hu]
    exact z3.same (hide_mono e)
  apart := h.apart
theorem Rep.same {d : D} {v : V} (e : Same H H') (h : Rep K mg ww .b H0 os H d v) : Rep K mg ww .b H0 os H' d v := by
  rcases h with h | ⟨a, h1, h2, h3⟩
  · exact .inl (IsD.same (hide_mono e) d v h)
  · refine .inr ⟨a, h1, h2, ?_⟩
    obtain ⟨u, hu⟩ := h3.ex
    rw [e _ _ hu, ← hu]
    exact h3.same (hide_mono e)
theorem Rep.sameD {H1 : Hp} {d : D} {v : V} (e : Same H H') (h : Rep K mg ww .d H0 os H d v) : Rep K mg ww .d H1 os H' d v := IsD.same (hide_mono e) d v h
theorem Rep.sameB {H1 : Hp} {d : D} {v : V} (e : Same H H') (h : Rep K mg ww .b H0 os H d v) : Rep K mg ww .b H1 os H' d v := Rep.same e h
theorem rBl {k : Bool} : Rep K mg ww .d H0 os H (.bl k) (.bl k) := by
  show IsD K mg ww _ _ _
  rw [IsD]
theorem rInt {k : Int} : Rep K mg ww .d H0 os H (.int k) (.int k) := by
  show IsD K mg ww _ _ _
  rw [IsD]
theorem rStr {k : Str} : Rep K mg ww .d H0 os H (.str k) (.str k) := by
  show IsD K mg ww _ _ _
  rw [IsD]
theorem Rep.fd {d : D} {v : V} (dom : ∀ a ∈ os, H0 a ≠ none) (h : Rep K mg ww .f H0 os H' d v) : Rep K mg ww .d H0 os H' d v := by
  obtain ⟨a, rfl, h1, h2⟩ := h
  exact h2.to (fun z => dom a z h1) (hide_sub fun b hb => List.mem_cons_of_mem _ hb)
theorem Rep.db {d : D} {v : V} (h : Rep K mg ww .d H0 os H' d v) : Rep K mg ww .b H0 os H' d v := .inl h
theorem Rep.from {H1 : Hp} {d : D} {v : V} (e : Same H0 H1) (h : Rep K mg ww md H1 os H' d v) : Rep K mg ww md H0 os H' d v := by
  cases md with
  | d => exact h
  | b => exact h
  | f =>
    obtain ⟨a, h1, h2, h3⟩ := h
    exact ⟨a, h1, e.free h2, h3⟩
theorem Out.same {r : R D} {Q : VK} (h : Out K mg ww md E os H r Q) (e : Same H H') : Out K mg ww md E os H' r Q := by
  cases r with
  | ok d => exact fun v H2 s q => h v H2 (e.trans s) (q.from e)
  | rse c =>
    obtain ⟨C, h1, h2⟩ := h
    exact ⟨C, h1, fun H2 s => h2 H2 (e.trans s)⟩
  | bad => exact h
theorem OutT.same {r : R Bool} {Q : Bool → Hp → Prop} (h : OutT mg E H r Q) (e : Same H H') : OutT mg E H' r Q := by
  cases r with
  | ok d => exact fun H2 s => h H2 (e.trans s)
  | rse c =>
    obtain ⟨C, h1, h2⟩ := h
    exact ⟨C, h1, fun H2 s => h2 H2 (e.trans s)⟩
  | bad => exact h
theorem OutA.same {r : R (List D)} {Q : List V → Hp → Prop} (h : OutA K mg ww md E os H r Q) (e : Same H H') : OutA K mg ww md E os H' r Q := by
  cases r with
  | ok d => exact fun v H2 s q => h v H2 (e.trans s) q
  | rse c =>
    obtain ⟨C, h1, h2⟩ := h
    exact ⟨C, h1, fun H2 s => h2 H2 (e.trans s)⟩
  | bad => exact h
theorem out_bind {r : R D} {k : D → R D} {Q : VK} (o : Out K mg ww md E os H (r.bind k) Q) : Out K mg ww md' E os H r (fun v H1 => ∃ d, r = .ok d ∧ Same H H1 ∧ Rep K mg ww md' H os H1 d v ∧ Out K mg ww md E os H1 (k d) Q) := by
  cases r with
  | ok d => exact fun v H1 s q => ⟨d, rfl, s, q, Out.same o s⟩
  | rse c => exact o
  | bad => exact o
theorem out_bindT {r : R D} {k : D → R Bool} {Q : Bool → Hp → Prop} (o : OutT mg E H (r.bind k) Q) : Out K mg ww md' E os H r (fun v H1 => ∃ d, r = .ok d ∧ Same H H1 ∧ Rep K mg ww md' H os H1 d v ∧ OutT mg E H1 (k d) Q) := by
  cases r with
  | ok d => exact fun v H1 s q => ⟨d, rfl, s, q, OutT.same o s⟩
  | rse c => exact o
  | bad => exact o
theorem outT_bindT {r : R Bool} {k : Bool → R Bool} {Q : Bool → Hp → Prop} (o : OutT mg E H (r.bind k) Q) : OutT mg E H r (fun b H1 => r = .ok b ∧ Same H H1 ∧ OutT mg E H1 (k b) Q) := by
  cases r with
  | ok d => exact fun H1 s => ⟨rfl, s, OutT.same o s⟩
  | rse c => exact o
  | bad => exact o
theorem outA_bind {r : R (List D)} {k : List D → R D} {Q : VK} (o : Out K mg ww md E os H (r.bind k) Q) : OutA K mg ww md' E os H r (fun vs H1 => ∃ ds, r = .ok ds ∧ Same H H1 ∧ Paired (Rep K mg ww md' H1 os H1) ds vs ∧ Out K mg ww md E os H1 (k ds) Q) := by
  cases r with
  | ok d => exact fun v H1 s q => ⟨d, rfl, s, q, Out.same o s⟩
  | rse c => exact o
  | bad => exact o
theorem out_bindA {r : R D} {k : D → R (List D)} {Q : List V → Hp → Prop} (o : OutA K mg ww md E os H (r.bind k) Q) : Out K mg ww md' E os H r (fun v H1 => ∃ d, r = .ok d ∧ Same H H1 ∧ Rep K mg ww md' H os H1 d v ∧ OutA K mg ww md E os H1 (k d) Q) := by
  cases r with
  | ok d => exact fun v H1 s q => ⟨d, rfl, s, q, OutA.same o s⟩
  | rse c => exact o
  | bad => exact o
theorem outA_bindA {r : R (List D)} {k : List D → R (List D)} {Q : List V → Hp → Prop} (o : OutA K mg ww md E os H (r.bind k) Q) : OutA K mg ww md' E os H r (fun vs H1 => ∃ ds, r = .ok ds ∧ Same H H1 ∧ Paired (Rep K mg ww md' H1 os H1) ds vs ∧ OutA K mg ww md E os H1 (k ds) Q) := by
  cases r with
  | ok d => exact fun v H1 s q => ⟨d, rfl, s, q, OutA.same o s⟩
  | rse c => exact o
  | bad => exact o
theorem isDs_of : ∀ {ds : List D} {vs : List V}, Paired (Rep K mg ww .d H0 os H) ds vs → IsDs K mg ww (hide os H) ds vs
  | _, _, .nil => IsDs.nil
  | _, _, .cons r t => IsDs.cons r (isDs_of t)
end
end DL
namespace L2
open PySem PySem.Spec PyProof.Rows
theorem PE.mono {X : Cx} {e : Expr} {t t' : TE} (h : PE X e t) (i : ∀ σ H Q, t' σ H Q → t σ H Q) : PE X e t' := fun pins s σ H Q I q => h pins s σ H Q I (i σ H Q q)
theorem PT.mono {X : Cx} {e : Expr} {t t' : TT} (h : PT X e t) (i : ∀ σ H Q, t' σ H Q → t σ H Q) : PT X e t' := fun pins s σ H Q I q => h pins s σ H Q I (i σ H Q q)
theorem PW.mono {X : Cx} {e : Expr} {t t' : TT} (h : PW X e t) (i : ∀ σ H Q, t' σ H Q → t σ H Q) : PW X e t' := fun wh pins s σ H Q I q => h wh pins s σ H Q I (i σ H Q q)
theorem PA.mono {X : Cx} {es : List Expr} {t t' : TA} (h : PA X es t) (i : ∀ σ H Q, t' σ H Q → t σ H Q) : PA X es t' := fun p pins s σ H Q I q => h p pins s σ H Q I (i σ H Q q)
theorem PS.mono {X : Cx} {st : Stmt} {t t' : TS} (h : PS X st t) (i : ∀ D σ H, t' D σ H → t D σ H) : PS X st t' := fun pins s σ H D I q => h pins s σ H D I (i D σ H q)
theorem PSs.mono {X : Cx} {st : List Stmt} {t t' : TS} (h : PSs X st t) (i : ∀ D σ H, t' D σ H → t D σ H) : PSs X st t' := fun pins s σ H D I q => h pins s σ H D I (i D σ H q)
end L2
namespace DL
open PySem PySem.Spec L2
def m2 (ma mb : Ev → R D) (f : D → D → R D) : Ev → R D := fun ρ => (ma ρ).bind fun x => (mb ρ).bind fun y => f x y
def mV (i : Nat) : Ev → R D := fun ρ => match ρ[i]? with
  | some (some d) => .ok d
  | _ => .bad
def mC (d : D) : Ev → R D := fun _ => .ok d
def asBl : D → R Bool
  | .bl b => .ok b
  | _ => .bad
def truD : D → R Bool
  | .non => .ok false
  | .bl b => .ok b
  | .int i => .ok (i != 0)
  | .str y => if y.length ≤ 1000000 then .ok ((y.length : Int) != 0) else .bad
  | .lst l => .ok (!l.isEmpty)
  | .tup l => .ok (!l.isEmpty)
  | _ => .bad
def mTst (m : Ev → R D) : Ev → R Bool := fun ρ => (m ρ).bind asBl
def mTru (m : Ev → R D) : Ev → R Bool := fun ρ => (m ρ).bind truD
def mTn (t : Ev → R Bool) : Ev → R Bool := fun ρ => (t ρ).bind fun k => .ok (!k)
def mTor (ta tb : Ev → R Bool) : Ev → R Bool := fun ρ => (ta ρ).bind fun k => if k = true then .ok true else tb ρ
def mYes : Ev → R Bool := fun _ => .ok true
def Op2 (K : PySem.W.Frag) (mg : Str → Option Value) (ww : World) (md : Md) (r : R2) (f : D → D → R D) : Prop :=
  ∀ (E : XK) (os : List Addr) (H : Hp) (x y : V) (d e : D) (Q : VK), (∀ a ∈ os, H a ≠ none) → Rep K mg ww .b H os H d x → Rep K mg ww .b H os H e y → Out K mg ww md E os H (f d e) Q → r x y H Q
def OpN (K : PySem.W.Frag) (mg : Str → Option Value) (ww : World) (md : Md) (r : List V → Hp → VK → Prop) (f : List D → R D) : Prop :=
  ∀ (E : XK) (os : List Addr) (H : Hp) (xs : List V) (ds : List D) (Q : VK), (∀ a ∈ os, H a ≠ none) → Paired (Rep K mg ww .b H os H) ds xs → Out K mg ww md E os H (f ds) Q → r xs H Q
theorem Paired.imp {α β : Type} {F G : α → β → Prop} (h : ∀ a b, F a b → G a b) : ∀ {l : List α} {l' : List β}, Paired F l l' → Paired G l l'
  | _, _, .nil => .nil
  | _, _, .cons r t => .cons (h _ _ r) (Paired.imp h t)
section
variable {X : Cx} {K : PySem.W.Frag} {mg : Str → Option Value} {ww : World} {E : XK} {ow : List Bool} {md : Md} {a b c e : Expr} {es : List Expr} {ma mb mc m : Ev → R D} {pos : Pos}
theorem f2d (h : PE X e (tE K mg ww .f E ow m)) : PE X e (tE K mg ww .d E ow m) := h.mono fun σ H Q ⟨os, ρ, hd, o⟩ => ⟨os, ρ, hd, by
  revert o
  cases m ρ with
  | ok d => exact fun o v H' s q => o v H' s (q.fd hd.dom)
  | rse c => exact fun o => o
  | bad => exact fun o => o⟩
theorem bd (h : PE X e (tE K mg ww .d E ow m)) : PE X e (tE K mg ww .b E ow m) := h.mono fun σ H Q ⟨os, ρ, hd, o⟩ => ⟨os, ρ, hd, by
  revert o
  cases m ρ with
  | ok d => exact fun o v H' s q => o v H' s q.db
  | rse c => exact fun o => o
  | bad => exact fun o => o⟩
theorem bf (h : PE X e (tE K mg ww .f E ow m)) : PE X e (tE K mg ww .b E ow m) := bd (f2d h)
theorem e_var (i : Nat) {x : Str} (ho : ow.getD i false = false := by rfl) (hN : X.N[i]? = some x := by rfl) (hv : Vis X.env.scope x := by first | exact Or.inl rfl | exact Or.inr (Or.inl rfl) | exact Or.inr (Or.inr rfl))
    (hd : (x == ("__debug__" : Str)) = false := by decide) (hcd : (x == ("__classdict__" : Str)) = false := by decide) : PE X (.Name x pos) (tE K mg ww .d E ow (mV i)) := (pe_var hN hv hd hcd).mono fun σ H Q ⟨os, ρ, h, o⟩ => by
  unfold mV at o
  split at o
  · rename_i d hi
    obtain ⟨v, h1, h2⟩ := h.imm i d ho hi
    exact ⟨v, h1, o v H (Same.refl H) h2⟩
  · exact o.elim
theorem b_var (i : Nat) {x : Str} (ho : ow.getD i false = true := by rfl) (hN : X.N[i]? = some x := by rfl) (hv : Vis X.env.scope x := by first | exact Or.inl rfl | exact Or.inr (Or.inl rfl) | exact Or.inr (Or.inr rfl))
    (hd : (x == ("__debug__" : Str)) = false := by decide) (hcd : (x == ("__classdict__" : Str)) = false := by decide) : PE X (.Name x pos) (tE K mg ww .b E ow (mV i)) := (pe_var hN hv hd hcd).mono fun σ H Q ⟨os, ρ, h, o⟩ => by
  unfold mV at o
  split at o
  · rename_i d hi
    obtain ⟨v, h1, h2, h3⟩ := h.own i d ho hi
    exact ⟨_, h1, o _ H (Same.refl H) (.inr ⟨v, rfl, h2, h3⟩)⟩
  · exact o.elim
theorem e_of {v : V} {d : D} (h : PE X e (tC v)) (hd : ∀ H, IsD K mg ww H d v) : PE X e (tE K mg ww .d E ow (mC d)) := h.mono fun σ H Q ⟨os, ρ, h, o⟩ => o v H (Same.refl H) (hd _)
theorem e_int {i j pos} : PE X (.Constant (.int i) j pos) (tE K mg ww .d E ow (mC (.int i))) := e_of pe_int fun H => by rw [IsD]
theorem e_bl {b j pos} : PE X (.Constant (.bool b) j pos) (tE K mg ww .d E ow (mC (.bl b))) := e_of pe_bl fun H => by rw [IsD]
theorem e_str {x j pos} : PE X (.Constant (.str x) j pos) (tE K mg ww .d E ow (mC (.str x))) := e_of pe_str fun H => by rw [IsD]
theorem e_gint {x : Str} {i : Int} {t : Tok} (hm : X.mg x = some (Value.int i t)) (hg : Gl X x := by rfl) (hd : (x == ("__debug__" : Str)) = false := by decide) : PE X (.Name x pos) (tE K mg ww .d E ow (mC (.int i))) := e_of (pe_glob (v := .int i) hg hm ⟨t, rfl⟩ hd) fun H => by rw [IsD]
theorem op_go {r : R2} {f : D → D → R D} {σ : St} {H : Hp} {Q : VK} (hf : Op2 K mg ww md r f) (h : tE K mg ww md E ow (m2 ma mb f) σ H Q) : tOp r (tE K mg ww .b E ow ma) (tE K mg ww .b E ow mb) σ H Q := by
  obtain ⟨os, ρ, hd, o⟩ := h
  refine ⟨os, ρ, hd, ?_⟩
  have z := out_bind (md' := .b) o
  revert z
  cases ma ρ with
  | ok d =>
    intro z v H1 s1 q1
    obtain ⟨d', e', _, _, z⟩ := z v H1 s1 q1
    cases e'
    refine ⟨os, ρ, hd.same s1, ?_⟩
    have y := out_bind (md' := .b) z
    revert y
    cases mb ρ with
    | ok e =>
      intro y u H2 s2 q2
      obtain ⟨d', e', _, _, y⟩ := y u H2 s2 q2
      cases e'
      exact hf E os H2 v u d e Q (hd.same (s1.trans s2)).dom (q1.same s2) q2 y
    | rse c => exact fun y => y
    | bad => exact fun y => y
  | rse c => exact fun z => z
  | bad => exact fun z => z
theorem e_op {op : Operator} {r : R2} {f : D → D → R D} (ho : OpR X (binaryOp op) r) (hf : Op2 K mg ww md r f) (ha : PE X a (tE K mg ww .b E ow ma)) (hb : PE X b (tE K mg ww .b E ow mb)) : PE X (.BinOp a op b pos) (tE K mg ww md E ow (m2 ma mb f)) :=
  (pe_op ho ha hb).mono fun _ _ _ h => op_go hf h
theorem e_cmp {op : CmpOp} {r : R2} {f : D → D → R D} (ho : OpR X (compareOp op) r) (hf : Op2 K mg ww md r f) (ha : PE X a (tE K mg ww .b E ow ma)) (hb : PE X b (tE K mg ww .b E ow mb)) (hm : behindInMarks op b = false) : PE X (.Compare a [op] [b] pos) (tE K mg ww md E ow (m2 ma mb f)) :=
  (pe_cmpR ho ha hb hm).mono fun _ _ _ h => op_go hf h
theorem e_ix {r : R2} {f : D → D → R D} (ho : IxR X r) (hf : Op2 K mg ww md r f) (ha : PE X a (tE K mg ww .b E ow ma)) (hb : PE X b (tE K mg ww .b E ow mb)) (hs : PlainIx b := by exact fun _ _ => rfl) : PE X (.Subscript a b pos) (tE K mg ww md E ow (m2 ma mb f)) :=
  (pe_ix ho ha hb hs).mono fun _ _ _ h => op_go hf h
theorem test_go {r : R2} {f : D → D → R D} {σ : St} {H : Hp} {Q : Bool → Hp → Prop} (hf : Op2 K mg ww .d r f) (h : tT K mg ww E ow (mTst (m2 ma mb f)) σ H Q) : tTest (tOp r (tE K mg ww .b E ow ma) (tE K mg ww .b E ow mb)) σ H Q := by
  obtain ⟨os, ρ, hd, o⟩ := h
  refine op_go (md := .d) hf ⟨os, ρ, hd, ?_⟩
  have z := out_bindT (ww := ww) (K := K) (md' := .d) (os := os) o
  revert z
  cases m2 ma mb f ρ with
  | ok d =>
    intro z v H1 s1 q1
    obtain ⟨d', e', _, q, z⟩ := z v H1 s1 q1
    cases e'
    cases d with
    | bl k =>
      have e2 : v = .bl k := by
        have := q1
        unfold Rep at this
        dsimp only at this
        rw [IsD] at this
        exact this
      exact ⟨k, e2, z H1 (Same.refl H1)⟩
    | _ => exact z.elim
  | rse c => exact fun z => z
  | bad => exact fun z => z
theorem t_cmp {op : CmpOp} {r : R2} {f : D → D → R D} (ho : OpR X (compareOp op) r) (hf : Op2 K mg ww .d r f) (ha : PE X a (tE K mg ww .b E ow ma)) (hb : PE X b (tE K mg ww .b E ow mb)) (hm : behindInMarks op b = false) : PT X (.Compare a [op] [b] pos) (tT K mg ww E ow (mTst (m2 ma mb f))) :=
  (pt_cmpR ho ha hb hm).mono fun _ _ _ h => test_go hf h
def mChain (ma mb mc : Ev → R D) (f g : D → D → R D) : Ev → R D := fun ρ => (ma ρ).bind fun x => (mb ρ).bind fun y => (f x y).bind fun z => (asBl z).bind fun k => if k = true then (mc ρ).bind fun w => g y w else .ok (.bl false)
theorem chain_go {r r' : R2} {f g : D → D → R D} {σ : St} {H : Hp} {Q : VK} (hf : Op2 K mg ww .d r f) (hg : Op2 K mg ww .d r' g) (h : tE K mg ww .d E ow (mChain ma mb mc f g) σ H Q) : tChain r r' (tE K mg ww .b E ow ma) (tE K mg ww .b E ow mb) (tE K mg ww .b E ow mc) σ H Q := by
  obtain ⟨os, ρ, hd, o⟩ := h
  refine ⟨os, ρ, hd, ?_⟩
  have z := out_bind (md' := .b) o
  revert z
  cases ma ρ with
  | ok d =>
    intro z v H1 s1 q1
    obtain ⟨d', e', _, _, z⟩ := z v H1 s1 q1
    cases e'
    refine ⟨os, ρ, hd.same s1, ?_⟩
    have y := out_bind (md' := .b) z
    revert y
    cases mb ρ with
    | ok e =>
      intro y u H2 s2 q2
      obtain ⟨d', e', _, _, y⟩ := y u H2 s2 q2
      cases e'
      refine hf E os H2 v u d e _ (hd.same (s1.trans s2)).dom (q1.same s2) q2 ?_
      have x := out_bind (md' := .d) y
      revert x
      cases f d e with
      | ok t =>
        intro x w H3 s3 q3
        obtain ⟨d', e', _, _, x⟩ := x w H3 s3 q3
        cases e'
        cases t with
        | bl k =>
          have e2 : w = .bl k := by
            have := q3
            unfold Rep at this
            dsimp only at this
            rw [IsD] at this
            exact this
          refine ⟨k, e2, ?_⟩
          cases k with
          | true =>
            rw [if_pos rfl]
            refine ⟨os, ρ, hd.same ((s1.trans s2).trans s3), ?_⟩
            have p := out_bind (md' := .b) (show Out K mg ww .d E os H3 ((mc ρ).bind fun w => g e w) Q from x)
            revert p
            cases mc ρ with
            | ok c' =>
              intro p w2 H4 s4 q4
              obtain ⟨d', e', _, _, p⟩ := p w2 H4 s4 q4
              cases e'
              exact hg E os H4 u w2 e c' Q (hd.same (((s1.trans s2).trans s3).trans s4)).dom (q2.same (s3.trans s4)) q4 p
            | rse c => exact fun y => y
            | bad => exact fun y => y
          | false =>
            rw [if_neg Bool.false_ne_true]
            exact x (.bl false) H3 (Same.refl H3) rBl
        | _ => exact x.elim
      | rse c => exact fun y => y
      | bad => exact fun y => y
    | rse c => exact fun y => y
    | bad => exact fun y => y
  | rse c => exact fun z => z
  | bad => exact fun z => z
theorem e_chain {op op' : CmpOp} {r r' : R2} {f g : D → D → R D} (ho : OpR X (compareOp op) r) (hf : Op2 K mg ww .d r f) (ho' : OpR X (compareOp op') r') (hg : Op2 K mg ww .d r' g) (ha : PE X a (tE K mg ww .b E ow ma)) (hb : PE X b (tE K mg ww .b E ow mb)) (hc : PE X c (tE K mg ww .b E ow mc))
    (hm : lastMarks [op, op'] [b, c] = false := by with_unfolding_all rfl) : PE X (.Compare a [op, op'] [b, c] pos) (tE K mg ww .d E ow (mChain ma mb mc f g)) :=
  (pe_chain ho ho' ha hb hc hm).mono fun _ _ _ h => chain_go hf hg h
theorem isEmpty_ds {H : Hp} {ds : List D} {xs : List V} (h : IsDs K mg ww H ds xs) : ds.isEmpty = xs.isEmpty := by
  have := h.len
  cases ds <;> cases xs <;> simp_all
theorem Rep.lst {H0 H : Hp} {os : List Addr} {ds : List D} {v : V} (h : Rep K mg ww .b H0 os H (.lst ds) v) : ∃ p xs, v = .ref p ∧ H p = some (.lst xs) ∧ IsDs K mg ww (hide os H) ds xs := by
  rcases h with h | ⟨a, h1, h2, h3⟩
  · rw [IsD] at h
    obtain ⟨a, xs, rfl, h1, h2⟩ := h
    exact ⟨a, xs, rfl, hide_le _ _ h1, h2⟩
  · obtain ⟨xs, h4, h5⟩ := h3
    exact ⟨a, xs, h1, h4, h5⟩
theorem Rep.tup {H0 H : Hp} {os : List Addr} {ds : List D} {v : V} (h : Rep K mg ww .b H0 os H (.tup ds) v) : ∃ p xs, v = .ref p ∧ SqT K H p xs ∧ SqT K (hide os H) p xs ∧ IsDs K mg ww (hide os H) ds xs := by
  rcases h with h | ⟨a, h1, h2, h3⟩
  · rw [IsD] at h
    obtain ⟨a, xs, rfl, h1, h2⟩ := h
    exact ⟨a, xs, rfl, hide_le.seqT h1, h1, h2⟩
  · exact h3.elim
theorem Rep.int {H0 H : Hp} {os : List Addr} {i : Int} {v : V} (h : Rep K mg ww .b H0 os H (.int i) v) : v = .int i := by
  rcases h with h | ⟨a, h1, h2, h3⟩
  · rw [IsD] at h
    exact h
  · exact h3.elim
theorem Rep.bl {H0 H : Hp} {os : List Addr} {i : Bool} {v : V} (h : Rep K mg ww .b H0 os H (.bl i) v) : v = .bl i := by
  rcases h with h | ⟨a, h1, h2, h3⟩
  · rw [IsD] at h
    exact h
  · exact h3.elim
theorem Rep.str {H0 H : Hp} {os : List Addr} {i : Str} {v : V} (h : Rep K mg ww .b H0 os H (.str i) v) : v = .str i := by
  rcases h with h | ⟨a, h1, h2, h3⟩
  · rw [IsD] at h
    exact h
  · exact h3.elim
theorem Rep.non {H0 H : Hp} {os : List Addr} {v : V} (h : Rep K mg ww .b H0 os H .non v) : v = .non := by
  rcases h with h | ⟨a, h1, h2, h3⟩
  · rw [IsD] at h
    exact h
  · exact h3.elim
theorem Rep.full {H0 H : Hp} {os : List Addr} {d : D} {v : V} (h : Rep K mg ww .b H0 os H d v) : IsD K mg ww H d v := by
  rcases h with h | ⟨a, h1, h2, h3⟩
  · exact IsD.same hide_le d v h
  · subst h1
    have z := h3.to (os := []) (by simp) (hide_le.trans hide_nil)
    exact IsD.same hide_le d _ z
theorem t_tru (h : PE X e (tE K mg ww .b E ow m)) (hK : X.K = K := by rfl) (he : ∀ whole, isTrue e X.env whole = (do let v ← whole; standAt e.pos; holding [v] (truthy v)) := by intro _; rfl) : PT X e (tT K mg ww E ow (mTru m)) :=
  (pt_truth h he).mono fun σ H Q ⟨os, ρ, hd, o⟩ => by
    subst hK
    refine ⟨os, ρ, hd, ?_⟩
    have z := out_bindT (ww := ww) (K := X.K) (md' := .b) (os := os) o
    revert z
    cases m ρ with
    | ok d =>
      intro z v H1 s1 q1
      obtain ⟨d', e', _, q, z⟩ := z v H1 s1 q1
      cases e'
      cases d with
      | non => exact ⟨false, by rw [q1.non]; rfl, z H1 (Same.refl H1)⟩
      | bl k => exact ⟨k, by rw [q1.bl]; rfl, z H1 (Same.refl H1)⟩
      | int i => exact ⟨i != 0, by rw [q1.int]; rfl, z H1 (Same.refl H1)⟩
      | str y =>
        unfold truD at z
        dsimp only at z
        split at z
        · rename_i hy
          exact ⟨_, by rw [q1.str]; exact ⟨Nat.le_trans hy (by rw [sizeLine_eq]; decide), rfl⟩, z H1 (Same.refl H1)⟩
        · exact z.elim
      | lst l =>
        obtain ⟨p, xs, rfl, h1, h2⟩ := q1.lst
        exact ⟨!l.isEmpty, .inl ⟨xs, SqL.of h1, by rw [isEmpty_ds h2]⟩, z H1 (Same.refl H1)⟩
      | tup l =>
        obtain ⟨p, xs, rfl, h1, _, h2⟩ := q1.tup
        exact ⟨!l.isEmpty, .inr (.inl ⟨xs, h1, by rw [isEmpty_ds h2]⟩), z H1 (Same.refl H1)⟩
      | _ => exact z.elim
    | rse c => exact fun z => z
    | bad => exact fun z => z
variable {ta tb tc : Ev → R Bool} {rest : List Expr}
theorem tnot_go {σ : St} {H : Hp} {Q : Bool → Hp → Prop} (h : tT K mg ww E ow (mTn ta) σ H Q) : tNot (tT K mg ww E ow ta) σ H Q := by
  obtain ⟨os, ρ, hd, o⟩ := h
  refine ⟨os, ρ, hd, ?_⟩
  unfold mTn at o
  revert o
  cases ta ρ with
  | ok d => exact fun z H1 s1 => z H1 s1
  | rse c => exact fun z => z
  | bad => exact fun z => z
theorem t_not (h : PT X a (tT K mg ww E ow ta)) : PT X (.UnaryOp .Not a pos) (tT K mg ww E ow (mTn ta)) := (pt_not h).mono fun _ _ _ h => tnot_go h
theorem w_or1 (h : PT X a (tT K mg ww E ow ta)) : PW X (.BoolOp .Or [a] pos) (tT K mg ww E ow ta) := pw_or1 h
theorem w_or (ha : PT X a (tT K mg ww E ow ta)) (hb : PW X (.BoolOp .Or (b :: rest) pos) (tT K mg ww E ow tb)) : PW X (.BoolOp .Or (a :: b :: rest) pos) (tT K mg ww E ow (mTor ta tb)) :=
  (pw_or ha hb).mono fun σ H Q ⟨os, ρ, hd, o⟩ => by
    refine ⟨os, ρ, hd, ?_⟩
    have z := outT_bindT o
    revert z
    cases ta ρ with
    | ok k =>
      intro z H1 s1
      obtain ⟨_, _, z⟩ := z H1 s1
      cases k with
      | true =>
        rw [if_pos rfl] at z ⊢
        exact z H1 (Same.refl H1)
      | false =>
        rw [if_neg Bool.false_ne_true] at z ⊢
        exact ⟨os, ρ, hd.same s1, z⟩
    | rse c => exact fun z => z
    | bad => exact fun z => z
def mAnd (ma mb : Ev → R D) : Ev → R D := fun ρ => (ma ρ).bind fun x => (asBl x).bind fun k => if k = true then mb ρ else .ok (.bl false)
def mNot (ma : Ev → R D) : Ev → R D := fun ρ => (ma ρ).bind fun x => (asBl x).bind fun k => .ok (.bl (!k))
theorem Rep.blD {H0 H : Hp} {os : List Addr} {i : Bool} {v : V} (h : Rep K mg ww .d H0 os H (.bl i) v) : v = .bl i := h.db.bl
theorem e_one {op} (h : PE X a (tE K mg ww .d E ow ma)) : PE X (.BoolOp op [a] pos) (tE K mg ww .d E ow ma) := pe_one h
theorem e_and (ha : PE X a (tE K mg ww .d E ow ma)) (hb : PE X (.BoolOp .And (b :: rest) pos) (tE K mg ww .d E ow mb)) : PE X (.BoolOp .And (a :: b :: rest) pos) (tE K mg ww .d E ow (mAnd ma mb)) :=
  (pe_and ha hb).mono fun σ H Q ⟨os, ρ, hd, o⟩ => by
    refine ⟨os, ρ, hd, ?_⟩
    have z := out_bind (md' := .d) o
    revert z
    cases ma ρ with
    | ok d =>
      intro z v H1 s1 q1
      obtain ⟨d', e', _, q, z⟩ := z v H1 s1 q1
      cases e'
      cases d with
      | bl k =>
        refine ⟨k, q1.blD, ?_⟩
        cases k with
        | true =>
          rw [if_pos rfl]
          exact ⟨os, ρ, hd.same s1, z⟩
        | false =>
          rw [if_neg Bool.false_ne_true]
          exact z _ H1 (Same.refl H1) rBl
      | _ => exact z.elim
    | rse c => exact fun z => z
    | bad => exact fun z => z
theorem e_not (ha : PE X a (tE K mg ww .d E ow ma)) : PE X (.UnaryOp .Not a pos) (tE K mg ww .d E ow (mNot ma)) :=
  (pe_not ha).mono fun σ H Q ⟨os, ρ, hd, o⟩ => by
    refine ⟨os, ρ, hd, ?_⟩
    have z := out_bind (md' := .d) o
    revert z
    cases ma ρ with
    | ok d =>
      intro z v H1 s1 q1
      obtain ⟨d', e', _, q, z⟩ := z v H1 s1 q1
      cases e'
      cases d with
      | bl k => exact ⟨k, q1.blD, z _ H1 (Same.refl H1) rBl⟩
      | _ => exact z.elim
    | rse c => exact fun z => z
    | bad => exact fun z => z
variable {ms : Ev → R (List D)}
def mNil : Ev → R (List D) := fun _ => .ok []
def mCons (m : Ev → R D) (ms : Ev → R (List D)) : Ev → R (List D) := fun ρ => (m ρ).bind fun x => (ms ρ).bind fun xs => .ok (x :: xs)
theorem a_nil : PA X [] (tA K mg ww md E ow mNil) := pa_nil.mono fun σ H Q ⟨os, ρ, hd, o⟩ => o [] H (Same.refl H) .nil
theorem args_go {md : Md} (hm : ∀ {H0 H H' : Hp} {os : List Addr} {d : D} {v : V}, Same H H' → Rep K mg ww md H0 os H d v → Rep K mg ww md H' os H' d v) {σ : St} {H : Hp} {Q : List V → Hp → Prop} (h : tA K mg ww md E ow (mCons m ms) σ H Q) : tCons (tE K mg ww md E ow m) (tA K mg ww md E ow ms) σ H Q := by
  obtain ⟨os, ρ, hd, o⟩ := h
  refine ⟨os, ρ, hd, ?_⟩
  have z := out_bindA (md' := md) o
  revert z
  cases m ρ with
  | ok d =>
    intro z v H1 s1 q1
    obtain ⟨d', e', _, q, z⟩ := z v H1 s1 q1
    cases e'
    refine ⟨os, ρ, hd.same s1, ?_⟩
    have y := outA_bindA (md' := md) z
    revert y
    cases ms ρ with
    | ok ds =>
      intro y vs H2 s2 q2
      obtain ⟨_, e', _, _, y⟩ := y vs H2 s2 q2
      cases e'
      exact y (v :: vs) H2 (Same.refl H2) (.cons (hm s2 q1) q2)
    | rse c => exact fun z => z
    | bad => exact fun z => z
  | rse c => exact fun z => z
  | bad => exact fun z => z
theorem a_d (ha : PE X e (tE K mg ww .d E ow m)) (hr : PA X es (tA K mg ww .d E ow ms)) (hs : starEach (e :: es) X.env = (false, eval e X.env) :: starEach es X.env := by rfl) : PA X (e :: es) (tA K mg ww .d E ow (mCons m ms)) :=
  (pa_cons ha hr hs).mono fun _ _ _ h => args_go (fun s q => Rep.sameD s q) h
theorem a_b (ha : PE X e (tE K mg ww .b E ow m)) (hr : PA X es (tA K mg ww .b E ow ms)) (hs : starEach (e :: es) X.env = (false, eval e X.env) :: starEach es X.env := by rfl) : PA X (e :: es) (tA K mg ww .b E ow (mCons m ms)) :=
  (pa_cons ha hr hs).mono fun _ _ _ h => args_go (fun s q => Rep.sameB s q) h
def mTup (ms : Ev → R (List D)) : Ev → R D := fun ρ => (ms ρ).bind fun ds => if ds.length ≤ 1000 then .ok (.tup ds) else .bad
def mLst (ms : Ev → R (List D)) : Ev → R D := fun ρ => (ms ρ).bind fun ds => if ds.length ≤ 1000 then .ok (.lst ds) else .bad
theorem big1000 {n : Nat} (h : n ≤ 1000) : n ≤ sizeLine := Nat.le_of_lt (small1000 h)
theorem e_tup {x1} (h : PA X es (tA K mg ww .d E ow ms)) : PE X (.Tuple es x1 pos) (tE K mg ww .d E ow (mTup ms)) := (pe_tup h).mono fun σ H Q ⟨os, ρ, hd, o⟩ => by
  refine ⟨os, ρ, hd, ?_⟩
  have z := outA_bind (md' := .d) o
  revert z
  cases ms ρ with
  | ok ds =>
    intro z vs H1 s1 q1
    obtain ⟨_, e', _, q, z⟩ := z vs H1 s1 q1
    cases e'
    have hd1 := isDs_of q1
    split at z
    · rename_i hl
      refine ⟨by rw [hd1.len]; exact big1000 hl, fun p hp => z (.ref p) _ (Wv.same_new hp) ?_⟩
      have np : p ∉ os := fun z => (hd.same s1).dom p z hp
      show IsD K mg ww _ _ _
      rw [IsD]
      exact ⟨p, vs, rfl, SqT.of (hide_some.mpr ⟨np, upd_same⟩), IsDs.same (hide_mono (Wv.same_new hp)) _ _ hd1⟩
    · exact z.elim
  | rse c => exact fun z => z
  | bad => exact fun z => z
theorem new_f {os : List Addr} {H : Hp} {p : Addr} {ds : List D} {vs : List V} (hp : H p = none) (h : IsDs K mg ww (hide os H) ds vs) : Rep K mg ww .f H os (upd H p (.lst vs)) (.lst ds) (.ref p) :=
  ⟨p, rfl, hp, vs, upd_same, IsDs.same (hide_new (Wv.same_new hp) hp) _ _ h⟩
theorem e_lst (h : PA X es (tA K mg ww .d E ow ms)) : PE X (.List es pos) (tE K mg ww .f E ow (mLst ms)) := (pe_lst h).mono fun σ H Q ⟨os, ρ, hd, o⟩ => by
  refine ⟨os, ρ, hd, ?_⟩
  have z := outA_bind (md' := .d) o
  revert z
  cases ms ρ with
  | ok ds =>
    intro z vs H1 s1 q1
    obtain ⟨_, e', _, q, z⟩ := z vs H1 s1 q1
    cases e'
    have hd1 := isDs_of q1
    split at z
    · rename_i hl
      exact ⟨by rw [hd1.len]; exact big1000 hl, fun p hp => z (.ref p) _ (Wv.same_new hp) (new_f hp hd1)⟩
    · exact z.elim
  | rse c => exact fun z => z
  | bad => exact fun z => z
def mFn (f : List D → R D) (ms : Ev → R (List D)) : Ev → R D := fun ρ => (ms ρ).bind f
theorem fn_go {r : List V → Hp → VK → Prop} {f : List D → R D} (hf : OpN K mg ww md r f) {σ : St} {H : Hp} {Q : VK} (h : tE K mg ww md E ow (mFn f ms) σ H Q) : tCB r (tA K mg ww .b E ow ms) σ H Q := by
  obtain ⟨os, ρ, hd, o⟩ := h
  refine ⟨os, ρ, hd, ?_⟩
  have z := outA_bind (md' := .b) o
  revert z
  cases ms ρ with
  | ok ds =>
    intro z vs H1 s1 q1
    obtain ⟨_, e', _, q, z⟩ := z vs H1 s1 q1
    cases e'
    exact hf E os H1 vs ds Q (hd.same s1).dom q1 z
  | rse c => exact fun z => z
  | bad => exact fun z => z
theorem e_callB {id : String} {x : Str} {p : Pos} {r : List V → Hp → VK → Prop} {f : List D → R D} (hc : CallR X (.builtin id) r) (hf : OpN K mg ww md r f) (hm : X.mg x = none) (hv : bootBuiltins x = some (.builtin id)) (ha : PA X (e :: es) (tA K mg ww .b E ow ms)) (hg : Gl X x := by rfl) (hn : x ≠ "__name__" := by decide) (hdb : (x == ("__debug__" : Str)) = false := by decide)
    (he : starEach (e :: es) X.env = (false, eval e X.env) :: starEach es X.env := by rfl) (hpl : (backTo pos (starEach es X.env)).any (·.1) = false := by rfl) : PE X (.Call (.Name x p) (e :: es) [] pos) (tE K mg ww md E ow (mFn f ms)) :=
  (pe_callB hc hg hm hv ha hn hdb he hpl).mono fun _ _ _ h => fn_go hf h
theorem e_callTy {T : String} {x : Str} {p : Pos} {r : List V → Hp → VK → Prop} {f : List D → R D} (hc : CallR X (.type T) r) (hf : OpN K mg ww md r f) (hm : X.mg x = none) (hv : bootBuiltins x = some (.type T)) (ha : PA X (e :: es) (tA K mg ww .b E ow ms)) (hg : Gl X x := by rfl) (hn : x ≠ "__name__" := by decide) (hdb : (x == ("__debug__" : Str)) = false := by decide)
    (he : starEach (e :: es) X.env = (false, eval e X.env) :: starEach es X.env := by rfl) (hpl : (backTo pos (starEach es X.env)).any (·.1) = false := by rfl) : PE X (.Call (.Name x p) (e :: es) [] pos) (tE K mg ww md E ow (mFn f ms)) :=
  (pe_callTy hc hg hm hv ha hn hdb he hpl).mono fun _ _ _ h => fn_go hf h
def spD (K : PySem.W.Frag) (mg : Str → Option Value) (ww : World) (n : Nat) (f : List D → R D) : Sp := fun vs H Q E => vs.length = n ∧ ∃ os ds, (∀ a ∈ os, H a ≠ none) ∧ IsDs K mg ww (hide os H) ds vs ∧ Out K mg ww .d E os H (f ds) Q
theorem e_call {x : Str} {p : Pos} {k n : Nat} {CX : CXT} {f : Addr} {fd : FuncData} {ps : List Str} {g : List D → R D} (F : FnOk X.prog X.w X.K X.mg X.base CX k f fd ps (spD K mg ww n g)) (hr : Room k X.A) (hm : X.mg x = some (.ref f)) (hk : PySem.W.keepIn X.K (.ref f) = true) (hb : Binds X.K fd ps []) (hx : Passes CX X E)
    (ha : PA X (e :: es) (tA K mg ww .d E ow ms)) (hn : ∀ ρ ds, ms ρ = .ok ds → ds.length = n) (hg : Gl X x := by rfl) (hdb : (x == ("__debug__" : Str)) = false := by decide) (he : starEach (e :: es) X.env = (false, eval e X.env) :: starEach es X.env := by rfl) (hpl : (backTo pos (starEach es X.env)).any (·.1) = false := by rfl) :
    PE X (.Call (.Name x p) (e :: es) [] pos) (tE K mg ww .d E ow (mFn g ms)) := (pe_call (E := E) F hr hg hm hk hb .nil hx ha hdb he hpl).mono fun σ H Q ⟨os, ρ, hd, o⟩ => by
  refine ⟨os, ρ, hd, ?_⟩
  have z := outA_bind (md' := .d) o
  have len := hn ρ
  revert z len
  cases ms ρ with
  | ok ds =>
    intro z len vs H1 s1 q1
    obtain ⟨_, e', _, q, z⟩ := z vs H1 s1 q1
    cases e'
    have hd1 := isDs_of q1
    rw [List.append_nil]
    exact ⟨by rw [hd1.len]; exact len ds rfl, os, ds, (hd.same s1).dom, hd1, z⟩
  | rse c => exact fun z _ => z
  | bad => exact fun z _ => z
theorem n_nil {n : Nat} (h : n = 0 := by rfl) : ∀ ρ ds, mNil ρ = .ok ds → ds.length = n := fun ρ ds e => by
  cases e
  exact h.symm
theorem n_cons {n : Nat} (h : ∀ ρ ds, ms ρ = .ok ds → ds.length = n) : ∀ ρ ds, mCons m ms ρ = .ok ds → ds.length = n + 1 := fun ρ ds e => by
  unfold mCons at e
  have := h ρ
  revert e this
  cases m ρ with
  | ok d =>
    cases ms ρ with
    | ok xs =>
      intro e this
      cases e
      rw [List.length_cons, this xs rfl]
    | rse c => intro e; cases e
    | bad => intro e; cases e
  | rse c => intro e; cases e
  | bad => intro e; cases e
end
end DL
namespace DL
open PySem PySem.Spec L2
section
variable (K : PySem.W.Frag) (mg : Str → Option Value) (ww : World)
def ItD (st : Bool) (os : List Addr) (J : It) (H1 : Hp) (items : List D) : Prop := ∀ (i : Nat) (os' : List Addr) (H' : Hp), (∀ a ∈ os', H' a ≠ none) → Same (hide os H1) (hide os' H') → (st = true → Same H1 H') →
  (∀ d, items[i]? = some d → J.go i H' ∧ ∀ x H2, J.yld i H' x H2 → Same H' H2 ∧ IsD K mg ww (hide os' H2) d x) ∧ (items.length ≤ i → J.stop i H')
def OutI (st : Bool) (E : XK) (os : List Addr) (H : Hp) (r : R (List D)) (Q : It → Hp → Prop) : Prop := match r with
  | .ok ds => ∀ J H1, Same H H1 → ItD K mg ww st os J H1 ds → Q J H1
  | .rse c => ∃ C, mg c = some (.ref C) ∧ ∀ H', Same H H' → E (.ref C) none H'
  | .bad => False
def tI (st : Bool) (E : XK) (ow : List Bool) (m : Ev → R (List D)) : TI := fun σ H Q => ∃ os ρ, Hd K mg ww ow os H σ ρ ∧ OutI K mg ww st E os H (m ρ) Q
def OutG (ow : List Bool) (os : List Addr) (H : Hp) (σ : St) (ρ : Ev) (r : R Ev) (Q : St → Hp → Prop) : Prop := match r with
  | .ok ρ' => ∀ σ', (∀ i, ow.getD i false = true → σ'[i]? = σ[i]? ∧ ρ'[i]? = ρ[i]?) → Hd K mg ww ow os H σ' ρ' → Q σ' H
  | _ => False
def tG (ow : List Bool) (g : D → Ev → R Ev) : TG := fun v σ H Q => ∃ os ρ d, Hd K mg ww ow os H σ ρ ∧ IsD K mg ww (hide os H) d v ∧ OutG K mg ww ow os H σ ρ (g d ρ) Q
end
section
variable {X : Cx} {K : PySem.W.Frag} {mg : Str → Option Value} {ww : World} {E : XK} {ow : List Bool} {os : List Addr} {H H' : Hp} {σ : St} {ρ : Ev} {m : Ev → R D} {ms : Ev → R (List D)} {tg l a b : Expr} {pos p : Pos} {st : Bool}
theorem Hd.set (h : Hd K mg ww ow os H σ ρ) {i : Nat} {d : D} {v : V} (hi : ow.getD i false = false) (hv : IsD K mg ww (hide os H) d v) : Hd K mg ww ow os H (σ.set i (some v)) (ρ.set i (some d)) where
  len := by rw [List.length_set, List.length_set]; exact h.len
  dom := h.dom
  imm := fun j e h1 h2 => by
    by_cases hj : i = j
    · subst hj
      have hlt : i < ρ.length := by
        have := (List.getElem?_eq_some_iff.mp h2).1
        simpa using this
      rw [List.getElem?_set_self hlt] at h2
      cases h2
      exact ⟨v, List.getElem?_set_self (by rw [h.len]; exact hlt), hv⟩
    · rw [List.getElem?_set_ne hj] at h2
      obtain ⟨u, z1, z2⟩ := h.imm j e h1 h2
      exact ⟨u, by rw [List.getElem?_set_ne hj]; exact z1, z2⟩
  own := fun j e h1 h2 => by
    have hj : i ≠ j := fun z => by
      subst z
      rw [hi] at h1
      cases h1
    rw [List.getElem?_set_ne hj] at h2
    obtain ⟨u, z1, z2⟩ := h.own j e h1 h2
    exact ⟨u, by rw [List.getElem?_set_ne hj]; exact z1, z2⟩
  apart := fun j k a e e' n h1 h2 h3 h4 h5 h6 => by
    have hj : i ≠ j := fun z => by
      subst z
      rw [hi] at h1
      cases h1
    have hk : i ≠ k := fun z => by
      subst z
      rw [hi] at h2
      cases h2
    rw [List.getElem?_set_ne hj] at h3 h5
    rw [List.getElem?_set_ne hk] at h4 h6
    exact h.apart j k a e e' n h1 h2 h3 h4 h5 h6
def Sub (ρ ρ' : Ev) : Prop := ρ.length = ρ'.length ∧ ∀ (i : Nat) (d : D), ρ[i]? = some (some d) → ρ'[i]? = some (some d)
theorem Hd.sub {ρ' : Ev} (h : Hd K mg ww ow os H σ ρ') (s : Sub ρ ρ') : Hd K mg ww ow os H σ ρ where
  len := h.len.trans s.1.symm
  dom := h.dom
  imm := fun i d h1 h2 => h.imm i d h1 (s.2 i d h2)
  own := fun i d h1 h2 => h.own i d h1 (s.2 i d h2)
  apart := fun i j a d e n h1 h2 h3 h4 => h.apart i j a d e n h1 h2 (s.2 i d h3) (s.2 j e h4)
def mIt (ms : Ev → R (List D)) (f : List D → R (List D)) : Ev → R (List D) := fun ρ => (ms ρ).bind f
def asItems : D → R (List D)
  | .lst l => .ok l
  | .tup l => .ok l
  | _ => .bad
def mItems (m : Ev → R D) : Ev → R (List D) := fun ρ => (m ρ).bind asItems
theorem itd_list {a : Addr} {xs : List V} {ds : List D} (h1 : SqL K (hide os H) a xs) (h2 : IsDs K mg ww (hide os H) ds xs) : ItD K mg ww st os (Itl K a) H ds := by
  intro i os' H' dm s1 _
  have q : SqL K H' a xs := hide_le.seq (s1.seq h1)
  refine ⟨fun d hd => ?_, fun hl => ⟨xs, q, by rw [h2.len]; exact hl⟩⟩
  obtain ⟨x, hx, hi⟩ := h2.atD hd
  refine ⟨⟨xs, x, q, hx⟩, fun y H2 ⟨e, z⟩ => ?_⟩
  subst e
  have e2 := z xs q
  rw [hx] at e2
  cases e2
  exact ⟨Same.refl _, IsD.same s1 d x hi⟩
theorem itd_tup {a : Addr} {xs : List V} {ds : List D} (h1 : SqT K (hide os H) a xs) (h2 : IsDs K mg ww (hide os H) ds xs) : ItD K mg ww st os (Itt K a) H ds := by
  intro i os' H' dm s1 _
  have q : SqT K H' a xs := hide_le.seqT (s1.seqT h1)
  refine ⟨fun d hd => ?_, fun hl => ⟨xs, q, by rw [h2.len]; exact hl⟩⟩
  obtain ⟨x, hx, hi⟩ := h2.atD hd
  refine ⟨⟨xs, x, q, hx⟩, fun y H2 ⟨e, z⟩ => ?_⟩
  subst e
  have e2 := z xs q
  rw [hx] at e2
  cases e2
  exact ⟨Same.refl _, IsD.same s1 d x hi⟩
theorem out_bindI {r : R D} {k : D → R (List D)} {md' : Md} {Q : It → Hp → Prop} (o : OutI K mg ww st E os H (r.bind k) Q) (hs : ∀ H1 r, Same H H1 → OutI K mg ww st E os H r Q → OutI K mg ww st E os H1 r Q) : Out K mg ww md' E os H r (fun v H1 => ∃ d, r = .ok d ∧ Same H H1 ∧ Rep K mg ww md' H os H1 d v ∧ OutI K mg ww st E os H1 (k d) Q) := by
  cases r with
  | ok d => exact fun v H1 s q => ⟨d, rfl, s, q, hs H1 _ s o⟩
  | rse c => exact o
  | bad => exact o
theorem OutI.same {r : R (List D)} {Q : It → Hp → Prop} (h : OutI K mg ww st E os H r Q) (e : Same H H') : OutI K mg ww st E os H' r Q := by
  cases r with
  | ok d => exact fun v H2 s q => h v H2 (e.trans s) q
  | rse c =>
    obtain ⟨C, h1, h2⟩ := h
    exact ⟨C, h1, fun H2 s => h2 H2 (e.trans s)⟩
  | bad => exact h
theorem PI.mono' {wi wi' : TI} (h : PI X tg l wi) (i : ∀ σ H Q, wi' σ H Q → wi σ H Q) : PI X tg l wi' := fun pins s σ H R I q => h pins s σ H R I (i σ H R q)
theorem i_seq (h : PE X l (tE K mg ww .d E ow m)) (hK : X.K = K := by rfl) : PI X tg l (tI K mg ww st E ow (mItems m)) := by
  refine PI.mono' (PI.or (pi_list h) (pi_tup h)) fun σ H Q ⟨os, ρ, hd, o⟩ => ?_
  subst hK
  have z := out_bindI (md' := .d) o fun H1 r s q => q.same s
  cases q : m ρ with
  | ok d =>
    rw [q] at z
    cases d with
    | lst l =>
      refine .inl ⟨os, ρ, hd, ?_⟩
      rw [q]
      intro v H1 s1 q1
      obtain ⟨d', e', _, _, z⟩ := z v H1 s1 q1
      cases e'
      have q2 : IsD X.K mg ww (hide os H1) (.lst l) v := q1
      rw [IsD] at q2
      obtain ⟨a, xs, rfl, h1, h2⟩ := q2
      exact ⟨a, rfl, ⟨xs, SqL.of (hide_le _ _ h1)⟩, z _ H1 (Same.refl _) (itd_list (SqL.of h1) h2)⟩
    | tup l =>
      refine .inr ⟨os, ρ, hd, ?_⟩
      rw [q]
      intro v H1 s1 q1
      obtain ⟨d', e', _, _, z⟩ := z v H1 s1 q1
      cases e'
      have q2 : IsD X.K mg ww (hide os H1) (.tup l) v := q1
      rw [IsD] at q2
      obtain ⟨a, xs, rfl, h1, h2⟩ := q2
      exact ⟨a, rfl, ⟨xs, hide_le.seqT h1⟩, z _ H1 (Same.refl _) (itd_tup h1 h2)⟩
    | _ =>
      refine .inl ⟨os, ρ, hd, ?_⟩
      rw [q]
      intro v H1 s1 q1
      obtain ⟨d', e', _, _, z⟩ := z v H1 s1 q1
      cases e'
      exact z.elim
  | rse c =>
    refine .inl ⟨os, ρ, hd, ?_⟩
    rw [q] at z ⊢
    exact z
  | bad =>
    rw [q] at z
    exact z.elim
def rangeD (lo : Int) (n : Nat) : List D := (List.range n).map fun k => .int (lo + (k : Nat))
theorem itd_range {lo : Int} {n : Nat} : ItD K mg ww st os (Itr lo n) H (rangeD lo n) := by
  intro i os' H' dm s1 _
  refine ⟨fun d hd => ?_, fun hl => ?_⟩
  · unfold rangeD at hd
    rw [List.getElem?_map] at hd
    cases q : (List.range n)[i]? with
    | none =>
      rw [q] at hd
      cases hd
    | some k =>
      rw [q] at hd
      have hi := (List.getElem?_eq_some_iff.mp q).1
      rw [List.length_range] at hi
      rw [List.getElem?_range hi] at q
      cases q
      cases hd
      refine ⟨hi, fun x H2 ⟨e1, e2⟩ => ?_⟩
      subst e1 e2
      exact ⟨Same.refl _, by rw [IsD]⟩
  · unfold rangeD at hl
    rw [List.length_map, List.length_range] at hl
    exact hl
def ran1 : List D → R (List D)
  | [.int j] => if j ≤ 100000 ∧ -100000 ≤ j then .ok (rangeD 0 j.toNat) else .bad
  | _ => .bad
theorem outA_bindI {r : R (List D)} {k : List D → R (List D)} {md' : Md} {Q : It → Hp → Prop} (o : OutI K mg ww st E os H (r.bind k) Q) : OutA K mg ww md' E os H r (fun vs H1 => ∃ ds, r = .ok ds ∧ Same H H1 ∧ Paired (Rep K mg ww md' H1 os H1) ds vs ∧ OutI K mg ww st E os H1 (k ds) Q) := by
  cases r with
  | ok d => exact fun v H1 s q => ⟨d, rfl, s, q, OutI.same o s⟩
  | rse c => exact o
  | bad => exact o
theorem i_ran1 (hm : X.mg "range" = none) (ha : PA X [a] (tA K mg ww .b E ow ms)) (hg : Gl X "range" := by rfl) (hs : starEach [a] X.env = [(false, eval a X.env)] := by rfl) : PI X tg (.Call (.Name "range" p) [a] [] pos) (tI K mg ww st E ow (mIt ms ran1)) :=
  PI.mono' (pi_range1 hg hm ha hs) fun σ H Q ⟨os, ρ, hd, o⟩ => by
    have z := outA_bindI (md' := .b) o
    refine ⟨os, ρ, hd, ?_⟩
    revert z
    cases ms ρ with
    | ok ds =>
      intro z vs H1 s1 q1
      obtain ⟨d', e', _, _, z⟩ := z vs H1 s1 q1
      cases e'
      unfold ran1 at z
      split at z
      · split at z
        · rename_i hj
          cases q1 with
          | cons r1 r2 =>
            cases r2
            refine ⟨_, by rw [r1.int], by omega, by omega, z _ H1 (Same.refl _) itd_range⟩
        · exact z.elim
      · exact z.elim
    | rse c => exact fun z => z
    | bad => exact fun z => z
theorem PG.mono' {g g' : TG} (h : PG X tg g) (i : ∀ v σ H Q, g' v σ H Q → g v σ H Q) : PG X tg g' := fun pins s σ H v u Q I r q => h pins s σ H v u Q I r (i v σ H Q q)
def gN (i : Nat) : D → Ev → R Ev := fun d ρ => .ok (ρ.set i (some d))
def gT2 (i j : Nat) : D → Ev → R Ev := fun d ρ => match d with
  | .tup [a, b] => .ok ((ρ.set i (some a)).set j (some b))
  | _ => .bad
def gT3 (i j k : Nat) : D → Ev → R Ev := fun d ρ => match d with
  | .tup [a, b, c] => .ok (((ρ.set i (some a)).set j (some b)).set k (some c))
  | _ => .bad
theorem set_ow {i : Nat} {v : V} {d : D} (hi : ow.getD i false = false) : ∀ j, ow.getD j false = true → (σ.set i (some v))[j]? = σ[j]? ∧ (ρ.set i (some d))[j]? = ρ[j]? := fun j hj => by
  have n : i ≠ j := fun z => by
    subst z
    rw [hi] at hj
    cases hj
  exact ⟨List.getElem?_set_ne n, List.getElem?_set_ne n⟩
theorem g_name {i : Nat} {x : Str} (hN : X.N.Nodup) (ho : ow.getD i false = false := by rfl) (hi : X.N[i]? = some x := by rfl) (hx : Loc X.env.scope x := by first | exact Or.inl rfl | exact Or.inr rfl) (hf : X.fn x = true ∨ X.env.scope.names.lookup x = some .local := by first | exact .inl rfl | exact .inr rfl | assumption) : PG X (.Name x pos) (tG K mg ww ow (gN i)) :=
  PG.mono' (pg_name hN hi hx hf) fun v σ H Q ⟨os, ρ, d, hd, h1, o⟩ => o _ (set_ow ho) (hd.set ho h1)
theorem g_tup2 {i j n : Nat} {x y : Str} {p1 p2 : Pos} (hc : X.calm = true) (hN : X.N.Nodup) (ho1 : ow.getD i false = false := by rfl) (ho2 : ow.getD j false = false := by rfl) (hi : X.N[i]? = some x := by rfl) (hj : X.N[j]? = some y := by rfl)
    (hx : Loc X.env.scope x := by first | exact Or.inl rfl | exact Or.inr rfl) (hy : Loc X.env.scope y := by first | exact Or.inl rfl | exact Or.inr rfl)
    (hf1 : X.fn x = true ∨ X.env.scope.names.lookup x = some .local := by first | exact .inl rfl | exact .inr rfl | assumption) (hf2 : X.fn y = true ∨ X.env.scope.names.lookup y = some .local := by first | exact .inl rfl | exact .inr rfl | assumption) (hK : X.K = K := by rfl) :
    PG X (.Tuple [.Name x p1, .Name y p2] n pos) (tG K mg ww ow (gT2 i j)) :=
  PG.mono' (pg_tup (n := 2) hc (pgs_cons (pg_name hN hi hx hf1) (pgs_cons (pg_name hN hj hy hf2) pgs_nil))) fun v σ H Q ⟨os, ρ, d, hd, h1, o⟩ => by
    subst hK
    unfold gT2 at o
    split at o
    · rename_i a b
      rw [IsD] at h1
      obtain ⟨ad, xs, rfl, h2, h3⟩ := h1
      obtain ⟨u1, r1, rfl, i1, h3⟩ := h3.uncons
      obtain ⟨u2, r2, rfl, i2, h3⟩ := h3.uncons
      cases h3.nil'
      exact ⟨ad, _, rfl, hide_le.seqT h2, rfl, u1, _, rfl, u2, _, rfl, rfl, o _ (fun k hk => ⟨(set_ow (ρ := ρ) (d := b) ho2 k hk).1.trans (set_ow (ρ := ρ) (d := a) ho1 k hk).1, (set_ow (σ := σ) (v := u2) ho2 k hk).2.trans (set_ow (σ := σ) (v := u1) ho1 k hk).2⟩) ((hd.set ho1 i1).set ho2 i2)⟩
    · exact o.elim
theorem g_tup3 {i j k n : Nat} {x y z : Str} {p1 p2 p3 : Pos} (hc : X.calm = true) (hN : X.N.Nodup) (ho1 : ow.getD i false = false := by rfl) (ho2 : ow.getD j false = false := by rfl) (ho3 : ow.getD k false = false := by rfl) (hi : X.N[i]? = some x := by rfl) (hj : X.N[j]? = some y := by rfl) (hk : X.N[k]? = some z := by rfl)
    (hx : Loc X.env.scope x := by first | exact Or.inl rfl | exact Or.inr rfl) (hy : Loc X.env.scope y := by first | exact Or.inl rfl | exact Or.inr rfl) (hz : Loc X.env.scope z := by first | exact Or.inl rfl | exact Or.inr rfl)
    (hf1 : X.fn x = true ∨ X.env.scope.names.lookup x = some .local := by first | exact .inl rfl | exact .inr rfl | assumption) (hf2 : X.fn y = true ∨ X.env.scope.names.lookup y = some .local := by first | exact .inl rfl | exact .inr rfl | assumption) (hf3 : X.fn z = true ∨ X.env.scope.names.lookup z = some .local := by first | exact .inl rfl | exact .inr rfl | assumption) (hK : X.K = K := by rfl) :
    PG X (.Tuple [.Name x p1, .Name y p2, .Name z p3] n pos) (tG K mg ww ow (gT3 i j k)) :=
  PG.mono' (pg_tup (n := 3) hc (pgs_cons (pg_name hN hi hx hf1) (pgs_cons (pg_name hN hj hy hf2) (pgs_cons (pg_name hN hk hz hf3) pgs_nil)))) fun v σ H Q ⟨os, ρ, d, hd, h1, o⟩ => by
    subst hK
    unfold gT3 at o
    split at o
    · rename_i a b c
      rw [IsD] at h1
      obtain ⟨ad, xs, rfl, h2, h3⟩ := h1
      obtain ⟨u1, r1, rfl, i1, h3⟩ := h3.uncons
      obtain ⟨u2, r2, rfl, i2, h3⟩ := h3.uncons
      obtain ⟨u3, r3, rfl, i3, h3⟩ := h3.uncons
      cases h3.nil'
      exact ⟨ad, _, rfl, hide_le.seqT h2, rfl, u1, _, rfl, u2, _, rfl, u3, _, rfl, rfl, o _ (fun k hk => ⟨(set_ow (ρ := ρ) (d := c) ho3 k hk).1.trans ((set_ow (ρ := ρ) (d := b) ho2 k hk).1.trans (set_ow (ρ := ρ) (d := a) ho1 k hk).1), (set_ow (σ := σ) (v := u3) ho3 k hk).2.trans ((set_ow (σ := σ) (v := u2) ho2 k hk).2.trans (set_ow (σ := σ) (v := u1) ho1 k hk).2)⟩) (((hd.set ho1 i1).set ho2 i2).set ho3 i3)⟩
    · exact o.elim
end
def nr {α : Type} : R α → R α
  | .ok a => .ok a
  | _ => .bad
def lcD (g : D → Ev → R Ev) (t : Ev → R Bool) (e : Ev → R D) (ρ : Ev) : List D → R (List D)
  | [] => .ok []
  | d :: ds => (g d ρ).bind fun ρ1 => (nr (t ρ1)).bind fun k => if k = true then (nr (e ρ1)).bind fun x => (lcD g t e ρ ds).bind fun xs => .ok (x :: xs) else lcD g t e ρ ds
def pickD (ρ : Ev) : Option Nat → Option D
  | none => none
  | some j => (ρ[j]?).getD none
def pickO (ow : List Bool) : Option Nat → Bool
  | none => false
  | some j => ow.getD j false
def mLc (mi : Ev → R (List D)) (src : List (Option Nat)) (g : D → Ev → R Ev) (t : Ev → R Bool) (e : Ev → R D) : Ev → R D := fun ρ =>
  (mi ρ).bind fun items => if items.length ≤ 100000 then (nr (lcD g t e (src.map (pickD ρ)) items)).bind fun ds => .ok (.lst ds) else .bad
section
variable {K : PySem.W.Frag} {mg : Str → Option Value} {ww : World} {ow : List Bool} {os : List Addr} {H H' : Hp} {σ : St} {ρ : Ev}
theorem pick_some {src : List (Option Nat)} {i : Nat} {d : D} (h : (src.map (pickD ρ))[i]? = some (some d)) : ∃ j, src[i]? = some (some j) ∧ ρ[j]? = some (some d) := by
  rw [List.getElem?_map] at h
  cases q : src[i]? with
  | none =>
    rw [q] at h
    cases h
  | some o =>
    rw [q] at h
    cases o with
    | none => cases h
    | some j =>
      have h' : (ρ[j]?).getD none = some d := Option.some.inj h
      cases q2 : ρ[j]? with
      | none =>
        rw [q2] at h'
        cases h'
      | some o2 =>
        rw [q2] at h'
        have : o2 = some d := h'
        exact ⟨j, rfl, by rw [this] at q2; exact q2⟩
theorem pick_σ {src : List (Option Nat)} {i j : Nat} {v : V} (h : src[i]? = some (some j)) (h2 : σ[j]? = some (some v)) : (src.map (pick σ))[i]? = some (some v) := by
  rw [List.getElem?_map, h]
  show some ((σ[j]?).getD none) = _
  rw [h2]
  rfl
theorem pick_ow {src : List (Option Nat)} {i j : Nat} (h : src[i]? = some (some j)) : (src.map (pickO ow)).getD i false = ow.getD j false := by
  rw [List.getD_eq_getElem?_getD, List.getElem?_map, h]
  rfl
def SrcOk (src : List (Option Nat)) : Prop := ∀ (i j k : Nat), src[i]? = some (some k) → src[j]? = some (some k) → i = j
theorem Hd.pick (h : Hd K mg ww ow os H σ ρ) {src : List (Option Nat)} (hs : SrcOk src) : Hd K mg ww (src.map (pickO ow)) os H (src.map (pick σ)) (src.map (pickD ρ)) where
  len := by rw [List.length_map, List.length_map]
  dom := h.dom
  imm := fun i d h1 h2 => by
    obtain ⟨j, e1, e2⟩ := pick_some h2
    rw [pick_ow e1] at h1
    obtain ⟨v, z1, z2⟩ := h.imm j d h1 e2
    exact ⟨v, pick_σ e1 z1, z2⟩
  own := fun i d h1 h2 => by
    obtain ⟨j, e1, e2⟩ := pick_some h2
    rw [pick_ow e1] at h1
    obtain ⟨v, z1, z2⟩ := h.own j d h1 e2
    exact ⟨v, pick_σ e1 z1, z2⟩
  apart := fun i j a d e n h1 h2 h3 h4 h5 h6 => by
    obtain ⟨i', e1, e2⟩ := pick_some h3
    obtain ⟨j', e3, e4⟩ := pick_some h4
    rw [pick_ow e1] at h1
    rw [pick_ow e3] at h2
    obtain ⟨v, z1, _⟩ := h.own i' d h1 e2
    obtain ⟨u, z2, _⟩ := h.own j' e h2 e4
    rw [pick_σ e1 z1] at h5
    rw [pick_σ e3 z2] at h6
    cases h5
    cases h6
    exact h.apart i' j' a d e (fun z => n (hs i j i' e1 (by rw [z]; exact e3))) h1 h2 e2 e4 z1 z2
theorem hide_upd {L : Addr} {o : HO} (hL : L ∈ os) : hide os (upd H L o) = hide os H := by
  funext b
  unfold hide
  by_cases hb : b ∈ os
  · rw [if_pos hb, if_pos hb]
  · rw [if_neg hb, if_neg hb, upd_ne fun z => hb (by rw [z]; exact hL)]
theorem Hd.write (h : Hd K mg ww ow os H σ ρ) {L : Addr} {o : HO} (hL : L ∈ os) (hn : ∀ i d, ow.getD i false = true → ρ[i]? = some (some d) → σ[i]? ≠ some (some (.ref L))) : Hd K mg ww ow os (upd H L o) σ ρ where
  len := h.len
  dom := fun a ha => by
    by_cases hb : a = L
    · rw [hb, upd_same]
      simp
    · rw [upd_ne hb]
      exact h.dom a ha
  imm := fun i d h1 h2 => by
    rw [hide_upd hL]
    exact h.imm i d h1 h2
  own := fun i d h1 h2 => by
    obtain ⟨a, z1, z2, z3⟩ := h.own i d h1 h2
    refine ⟨a, z1, z2, ?_⟩
    rw [hide_upd hL, upd_ne fun z => hn i d h1 h2 (by rw [← z]; exact z1)]
    exact z3
  apart := h.apart
theorem Hd.more (h : Hd K mg ww ow os H σ ρ) (e : Same H H') {L : Addr} (h0 : H L = none) (h1 : H' L ≠ none) : Hd K mg ww ow (L :: os) H' σ ρ where
  len := h.len
  dom := fun a ha => by
    rcases List.mem_cons.mp ha with z | z
    · rw [z]
      exact h1
    · exact (h.same e).dom a z
  imm := fun i d h1 h2 => by
    obtain ⟨v, z1, z2⟩ := h.imm i d h1 h2
    exact ⟨v, z1, IsD.same (hide_new e h0) d v z2⟩
  own := fun i d h1 h2 => by
    obtain ⟨a, z1, z2, z3⟩ := h.own i d h1 h2
    refine ⟨a, z1, List.mem_cons_of_mem _ z2, ?_⟩
    obtain ⟨u, hu⟩ := z3.ex
    rw [e _ _ hu, ← hu]
    exact z3.same (hide_new e h0)
  apart := h.apart
end
section
variable {X : Cx} {K : PySem.W.Frag} {mg : Str → Option Value} {ww : World} {E : XK} {ow : List Bool} {scope : Scope} {N' : List Str} {src : List (Option Nat)} {elt tg iter : Expr} {ifs : List Expr} {pos : Pos} {mi : Ev → R (List D)} {g : D → Ev → R Ev} {t : Ev → R Bool} {e : Ev → R D}
theorem ptl_yes : PTL X [] (tT K mg ww E ow mYes) := fun pins s σ H Q I h => by
  obtain ⟨os, ρ, hd, o⟩ := h
  exact ptl_nil pins s σ H Q I (o H (Same.refl H))
def LcI (K : PySem.W.Frag) (mg : Str → Option Value) (ww : World) (ow : List Bool) (os : List Addr) (Lc : Addr) (H1 : Hp) (g : D → Ev → R Ev) (t : Ev → R Bool) (e : Ev → R D) (ρ0 : Ev) (items full : List D) (i : Nat) (σ' : St) (H' : Hp) : Prop :=
  ∃ (ys : List V) (ds rest : List D), H' Lc = some (.lst ys) ∧ IsDs K mg ww (hide (Lc :: os) H') ds ys ∧ Hd K mg ww ow (Lc :: os) H' σ' ρ0 ∧ Same H1 H' ∧ Same (hide os H1) (hide (Lc :: os) H') ∧ ds.length ≤ i ∧
    lcD g t e ρ0 (items.drop i) = .ok rest ∧ full = ds ++ rest ∧ ∀ j d, ow.getD j false = true → ρ0[j]? = some (some d) → σ'[j]? ≠ some (some (.ref Lc))
theorem lc_turn {os : List Addr} {Lc : Addr} {H1 : Hp} {ρ0 : Ev} {items full : List D} {i : Nat} {σ' : St} {H' H2 : Hp} {x : V} (hL : H1 Lc = none) (hlen : items.length ≤ 100000) (hsub : ∀ d ρ1, g d ρ0 = .ok ρ1 → Sub ρ0 ρ1) (hlt : i < items.length)
    (h : LcI K mg ww ow os Lc H1 g t e ρ0 items full i σ' H') (s2 : Same H' H2) (hx : IsD K mg ww (hide (Lc :: os) H2) items[i] x) :
    tG K mg ww ow g x σ' H2 (LcT (tT K mg ww E0 ow t) (tE K mg ww .d E0 ow e) Lc (LcI K mg ww ow os Lc H1 g t e ρ0 items full (i + 1))) := by
  obtain ⟨ys, ds, rest, hys, hds, hd', sm, sc, hl, hr, hf, hn⟩ := h
  rw [List.drop_eq_getElem_cons hlt, lcD] at hr
  refine ⟨Lc :: os, ρ0, items[i], hd'.same s2, hx, ?_⟩
  cases hg : g items[i] ρ0 with
  | rse c =>
    rw [hg] at hr
    cases hr
  | bad =>
    rw [hg] at hr
    cases hr
  | ok ρ1 =>
    rw [hg, R.ok_bind] at hr
    intro σ2 ks hd2
    have sub := hsub _ _ hg
    have hn2 : ∀ j d, ow.getD j false = true → ρ0[j]? = some (some d) → σ2[j]? ≠ some (some (.ref Lc)) := fun j d h1 h2 => by
      rw [(ks j h1).1]
      exact hn j d h1 h2
    cases htt : t ρ1 with
    | rse c =>
      rw [htt] at hr
      cases hr
    | bad =>
      rw [htt] at hr
      cases hr
    | ok k =>
      rw [htt] at hr
      replace hr : (if k = true then (nr (e ρ1)).bind fun x => (lcD g t e ρ0 (items.drop (i + 1))).bind fun xs => .ok (x :: xs) else lcD g t e ρ0 (items.drop (i + 1))) = .ok rest := hr
      refine ⟨Lc :: os, ρ1, hd2, ?_⟩
      rw [htt]
      intro H3 s3
      cases k with
      | false =>
        rw [if_neg Bool.false_ne_true] at hr ⊢
        have s4 := s2.trans s3
        exact ⟨ys, ds, rest, s4 _ _ hys, IsDs.same (hide_mono s4) _ _ hds, (hd2.same s3).sub sub, sm.trans s4, sc.trans (hide_mono s4), Nat.le_succ_of_le hl, hr, hf, hn2⟩
      | true =>
        rw [if_pos rfl] at hr ⊢
        cases hee : e ρ1 with
        | rse c =>
          rw [hee] at hr
          cases hr
        | bad =>
          rw [hee] at hr
          cases hr
        | ok y =>
          rw [hee] at hr
          replace hr : ((lcD g t e ρ0 (items.drop (i + 1))).bind fun xs => .ok (y :: xs)) = .ok rest := hr
          refine ⟨Lc :: os, ρ1, hd2.same s3, ?_⟩
          rw [hee]
          intro v H4 s4 q4
          have q4' : IsD K mg ww (hide (Lc :: os) H4) y v := q4
          have s5 := (s2.trans s3).trans s4
          refine ⟨ys, s5 _ _ hys, ?_, ?_⟩
          · rw [hds.len, sizeLine_eq]
            omega
          · cases hrr : lcD g t e ρ0 (items.drop (i + 1)) with
            | rse c =>
              rw [hrr] at hr
              cases hr
            | bad =>
              rw [hrr] at hr
              cases hr
            | ok rs =>
              rw [hrr] at hr
              have e1 : y :: rs = rest := by
                have : R.ok (y :: rs) = R.ok rest := hr
                exact R.ok.inj this
              have mem : Lc ∈ Lc :: os := List.mem_cons_self
              refine ⟨ys ++ [v], ds ++ [y], rs, upd_same, ?_, ?_, ?_, ?_, ?_, hrr, ?_, hn2⟩
              · rw [hide_upd mem]
                exact (IsDs.same (hide_mono s5) _ _ hds).append (IsDs.cons q4' IsDs.nil)
              · exact ((hd2.same (s3.trans s4)).sub sub).write mem hn2
              · intro b o z
                rw [upd_ne (ne_of_none z hL)]
                exact s5 _ _ (sm _ _ z)
              · rw [hide_upd mem]
                exact sc.trans (hide_mono s5)
              · rw [List.length_append]
                exact Nat.succ_le_succ hl
              · rw [hf, List.append_assoc, ← e1]
                rfl
theorem lc_go (hsub : ∀ ρ d ρ1, g d (src.map (pickD ρ)) = .ok ρ1 → Sub (src.map (pickD ρ)) ρ1) (hsrc : SrcOk src) {σ : St} {H : Hp} {Q : VK} (h : tE K mg ww .f E ow (mLc mi src g t e) σ H Q) :
    tLc (tI K mg ww true E ow mi) src (tG K mg ww (src.map (pickO ow)) g) (tT K mg ww E0 (src.map (pickO ow)) t) (tE K mg ww .d E0 (src.map (pickO ow)) e) σ H Q := by
  obtain ⟨os, ρ, hd, o⟩ := h
  refine ⟨os, ρ, hd, ?_⟩
  unfold mLc at o
  revert o
  cases mi ρ with
  | rse c => exact fun o => o
  | bad => exact fun o => o
  | ok items =>
    rw [R.ok_bind]
    intro o
    split at o
    case isFalse => exact o.elim
    rename_i hlen
    intro J H1 s1 it Lc hL
    cases hfull : lcD g t e (src.map (pickD ρ)) items with
    | rse c =>
      rw [hfull] at o
      exact o.elim
    | bad =>
      rw [hfull] at o
      exact o.elim
    | ok full =>
      rw [hfull] at o
      have o' : ∀ v H', Same H H' → Rep K mg ww .f H os H' (.lst full) v → Q v H' := o
      have hd1 := (hd.same s1).pick hsrc
      have hL0 : H Lc = none := s1.free hL
      refine ⟨fun i m σ' H' => m = items.length - i ∧ i ≤ items.length ∧ LcI K mg ww (src.map (pickO ow)) os Lc H1 g t e (src.map (pickD ρ)) items full i σ' H',
        ⟨items.length, by simp, Nat.zero_le _, [], [], full, upd_same, IsDs.nil, hd1.more (Wv.same_new hL) hL (by rw [upd_same]; simp), Wv.same_new hL, hide_new (Wv.same_new hL) hL, Nat.le_refl _, by rw [List.drop_zero]; exact hfull, rfl, fun j d h1 h2 z => ?_⟩, ?_⟩
      · obtain ⟨a, z1, z2, _⟩ := hd1.own j d h1 h2
        rw [z1] at z
        cases z
        exact hd1.dom _ z2 hL
      · rintro i m σ' H' ⟨rfl, hi, W⟩
        obtain ⟨ys, ds, rest, hys, hds, hd', sm, sc, hl, hr, hf, hn⟩ := id W
        obtain ⟨it1, it2⟩ := it i (Lc :: os) H' hd'.dom sc fun _ => sm
        by_cases hlt : i < items.length
        · obtain ⟨go, yl⟩ := it1 _ (List.getElem?_eq_getElem hlt)
          refine .inr ⟨go, LcI K mg ww (src.map (pickO ow)) os Lc H1 g t e (src.map (pickD ρ)) items full (i + 1), fun σ2 H2 w => ⟨items.length - (i + 1), by omega, rfl, hlt, w⟩, fun x H2 y => ?_⟩
          obtain ⟨s2, hx⟩ := yl x H2 y
          exact lc_turn hL hlen (fun d ρ1 => hsub ρ d ρ1) hlt W s2 hx
        · have e1 : i = items.length := by omega
          subst e1
          refine .inl ⟨it2 (Nat.le_refl _), o' _ _ (s1.trans sm) ⟨Lc, rfl, hL0, ?_⟩⟩
          rw [List.drop_length, lcD] at hr
          cases hr
          rw [List.append_nil] at hf
          subst hf
          exact ⟨ys, hys, hds⟩
theorem e_lc (L : LcOk X scope N' src) (hi : PI X tg iter (tI K mg ww true E ow mi)) (hg : ∀ C s2 H1 fp, PG (compCx X scope C N' s2 H1 fp) tg (tG K mg ww (src.map (pickO ow)) g)) (ht : ∀ C s2 H1 fp, PTL (compCx X scope C N' s2 H1 fp) ifs (tT K mg ww E0 (src.map (pickO ow)) t))
    (he : ∀ C s2 H1 fp, PE (compCx X scope C N' s2 H1 fp) elt (tE K mg ww .d E0 (src.map (pickO ow)) e)) (hsub : ∀ ρ d ρ1, g d (src.map (pickD ρ)) = .ok ρ1 → Sub (src.map (pickD ρ)) ρ1) (hsrc : SrcOk src) (hc : X.calm = true := by rfl)
    (hs : ∀ x, foldedSetIterable iter X.env x = pure x := by intro _; rfl) : PE X (.ListComp elt [⟨tg, iter, ifs, 0⟩] scope pos) (tE K mg ww .f E ow (mLc mi src g t e)) := (pe_lc hc L hi hg ht he hs).mono fun _ _ _ h => lc_go hsub hsrc h
theorem sub_N {i : Nat} (h : src[i]? = some none := by rfl) : ∀ ρ d ρ1, gN i d (src.map (pickD ρ)) = .ok ρ1 → Sub (src.map (pickD ρ)) ρ1 := fun ρ d ρ1 e1 => by
  have e2 : (src.map (pickD ρ)).set i (some d) = ρ1 := R.ok.inj e1
  subst e2
  refine ⟨by rw [List.length_set], fun j d' hj => ?_⟩
  have hij : i ≠ j := fun z => by
    subst z
    rw [List.getElem?_map, h] at hj
    cases hj
  rw [List.getElem?_set_ne hij]
  exact hj
theorem sub_T2 {i j : Nat} (hi : src[i]? = some none := by rfl) (hj : src[j]? = some none := by rfl) : ∀ ρ d ρ1, gT2 i j d (src.map (pickD ρ)) = .ok ρ1 → Sub (src.map (pickD ρ)) ρ1 := fun ρ d ρ1 e1 => by
  unfold gT2 at e1
  split at e1
  · rename_i a b
    have e2 : ((src.map (pickD ρ)).set i (some a)).set j (some b) = ρ1 := R.ok.inj e1
    subst e2
    refine ⟨by rw [List.length_set, List.length_set], fun k d' hk => ?_⟩
    have hik : i ≠ k := fun z => by
      subst z
      rw [List.getElem?_map, hi] at hk
      cases hk
    have hjk : j ≠ k := fun z => by
      subst z
      rw [List.getElem?_map, hj] at hk
      cases hk
    rw [List.getElem?_set_ne hjk, List.getElem?_set_ne hik]
    exact hk
  · cases e1
def srcCheck (src : List (Option Nat)) : Bool := (List.range src.length).all fun i => (List.range src.length).all fun j => i == j || src[i]? == some none || !(src[i]? == src[j]?)
theorem src_ok {src : List (Option Nat)} (h : srcCheck src = true := by rfl) : SrcOk src := fun i j k h1 h2 => by
  have l1 := (List.getElem?_eq_some_iff.mp h1).1
  have l2 := (List.getElem?_eq_some_iff.mp h2).1
  unfold srcCheck at h
  have z := List.all_eq_true.mp (List.all_eq_true.mp h i (List.mem_range.mpr l1)) j (List.mem_range.mpr l2)
  rw [h1, h2] at z
  simp at z
  exact z
end
end DL
namespace L2
open PySem PySem.Spec PyProof.Rows
def itR (b : Bool) (l : Addr) : Obj := match b with
  | true => { cls := .type "tuple_iterator", data := .fields #[.ref l, .int 0 0] }
  | false => { cls := .type "list_iterator", data := .fields #[.ref l, .int 0 0] }
def zS2 (b1 b2 : Bool) (h : Heap) (l1 l2 : Addr) : Heap := (h.push (itR b1 l1)).push (itR b2 l2)
def zS5 (b1 b2 : Bool) (h : Heap) (l1 l2 : Addr) : Heap :=
  (((zS2 b1 b2 h l1 l2).push { cls := .type "tuple", data := .seq #[.ref h.objs.size, .ref (h.push (itR b1 l1)).objs.size] }).push { cls := .type "tuple", data := .seq #[.none, .none] }).push
    { cls := .type "zip", data := .fields #[.none, .bool false, .bool false, .ref (zS2 b1 b2 h l1 l2).objs.size, .ref ((zS2 b1 b2 h l1 l2).push { cls := .type "tuple", data := .seq #[.ref h.objs.size, .ref (h.push (itR b1 l1)).objs.size] }).objs.size] }
set_option maxHeartbeats 4000000 in
theorem meets_zipS (b1 b2 : Bool) (l1 l2 : Addr) (xs ys : Array Value) : Meets (Builtin.«zip.__new__» ⟨[.type "zip", .ref l1, .ref l2], []⟩) (fun _ R s => SSq b1 s.heap l1 xs ∧ SSq b2 s.heap l2 ys ∧
    R (.ok (.ret (.ref (((zS2 b1 b2 s.heap l1 l2).push { cls := .type "tuple", data := .seq #[.ref s.heap.objs.size, .ref (s.heap.push (itR b1 l1)).objs.size] }).push { cls := .type "tuple", data := .seq #[.none, .none] }).objs.size))) { s with heap := zS5 b1 b2 s.heap l1 l2 }) :=
  .of_wp fun prog w A R s h => by
    obtain ⟨hp, g, d, tk, os⟩ := s
    obtain ⟨hl1, hl2, h⟩ := h
    have hsub := sub_zip
    cases b1 <;> cases b2
    · have q1 : Heap.IsList (Shared.heap ⟨hp, g, d, tk, os⟩) l1 xs := hl1
      have q2 : Heap.IsList (Shared.heap ⟨hp.push (itR false l1), g, d, tk, os⟩) l2 ys := Heap.IsList.push hl2 _
      unfold itR at q2
      wp_walk using wpAny_pyIter_list q1, wpAny_pyIter_list q2
      exact ⟨_, rfl, h⟩
    · have q1 : Heap.IsList (Shared.heap ⟨hp, g, d, tk, os⟩) l1 xs := hl1
      have q2 : Heap.IsTuple (Shared.heap ⟨hp.push (itR false l1), g, d, tk, os⟩) l2 ys := Heap.IsTuple.push hl2 _
      unfold itR at q2
      wp_walk using wpAny_pyIter_list q1, wpAny_pyIter_tuple q2
      exact ⟨_, rfl, h⟩
    · have q1 : Heap.IsTuple (Shared.heap ⟨hp, g, d, tk, os⟩) l1 xs := hl1
      have q2 : Heap.IsList (Shared.heap ⟨hp.push (itR true l1), g, d, tk, os⟩) l2 ys := Heap.IsList.push hl2 _
      unfold itR at q2
      wp_walk using wpAny_pyIter_tuple q1, wpAny_pyIter_list q2
      exact ⟨_, rfl, h⟩
    · have q1 : Heap.IsTuple (Shared.heap ⟨hp, g, d, tk, os⟩) l1 xs := hl1
      have q2 : Heap.IsTuple (Shared.heap ⟨hp.push (itR true l1), g, d, tk, os⟩) l2 ys := Heap.IsTuple.push hl2 _
      unfold itR at q2
      wp_walk using wpAny_pyIter_tuple q1, wpAny_pyIter_tuple q2
      exact ⟨_, rfl, h⟩
section
variable {prog : Program} {w : World} {A : Around} {E : Value → Shared → Prop} {s : Shared}
theorem itR_at {b : Bool} {h : Heap} {it l : Addr} (e : h.get? it = some (itR b l)) : SIt b h it l 0 := by
  cases b with
  | true => exact ⟨_, e, rfl, rfl⟩
  | false => exact ⟨_, e, rfl, rfl⟩
theorem itR_ok {b : Bool} {l : Addr} : (itR b l).isFreed = false := by cases b <;> rfl
theorem call_zipS {b1 b2 : Bool} {l1 l2 : Addr} {xs ys : Array Value} {Q : Value → Shared → Prop} (hl1 : SSq b1 s.heap l1 xs) (hl2 : SSq b2 s.heap l2 ys)
    (h : ∀ h', IsZip h' (s.heap.objs.size + 4) (s.heap.objs.size + 2) (s.heap.objs.size + 3) .none → IsPair h' (s.heap.objs.size + 2) (.ref s.heap.objs.size) (.ref (s.heap.objs.size + 1)) → IsPair h' (s.heap.objs.size + 3) .none .none →
      SIt b1 h' s.heap.objs.size l1 0 → SIt b2 h' (s.heap.objs.size + 1) l2 0 → (∀ c o, s.heap.get? c = some o → h'.get? c = some o) → Q (.ref (s.heap.objs.size + 4)) { s with heap := h' }) :
    wpAny (model prog w) A (call (.type "zip") [.ref l1, .ref l2]) Q E s := by
  refine callType_new F.called_zip (by decide) (F.typeCall_zip_2 _ _) (F.newCall_zip_2 _ _) (fun obj => F.args_object_init_3 obj _ _) F.entry_zip_new (meets_zipS b1 b2 l1 l2 xs ys) ⟨hl1, hl2, ?_⟩
  have z1 : (s.heap.push (itR b1 l1)).objs.size = s.heap.objs.size + 1 := Heap.size_push ..
  have z2 : (zS2 b1 b2 s.heap l1 l2).objs.size = s.heap.objs.size + 2 := by unfold zS2; rw [Heap.size_push, z1]
  have z3 : ((zS2 b1 b2 s.heap l1 l2).push { cls := .type "tuple", data := .seq #[.ref s.heap.objs.size, .ref (s.heap.push (itR b1 l1)).objs.size] }).objs.size = s.heap.objs.size + 3 := by rw [Heap.size_push, z2]
  have z4 : (((zS2 b1 b2 s.heap l1 l2).push { cls := .type "tuple", data := .seq #[.ref s.heap.objs.size, .ref (s.heap.push (itR b1 l1)).objs.size] }).push { cls := .type "tuple", data := .seq #[.none, .none] }).objs.size = s.heap.objs.size + 4 := by rw [Heap.size_push, z3]
  have g5 : (zS5 b1 b2 s.heap l1 l2).get? (((zS2 b1 b2 s.heap l1 l2).push { cls := .type "tuple", data := .seq #[.ref s.heap.objs.size, .ref (s.heap.push (itR b1 l1)).objs.size] }).push { cls := .type "tuple", data := .seq #[.none, .none] }).objs.size = some _ := Heap.get?_push_size _ rfl
  have g4 : (zS5 b1 b2 s.heap l1 l2).get? ((zS2 b1 b2 s.heap l1 l2).push { cls := .type "tuple", data := .seq #[.ref s.heap.objs.size, .ref (s.heap.push (itR b1 l1)).objs.size] }).objs.size = some _ := Heap.get?_push_of_some _ (Heap.get?_push_size _ rfl)
  have g3 : (zS5 b1 b2 s.heap l1 l2).get? (zS2 b1 b2 s.heap l1 l2).objs.size = some _ := Heap.get?_push_of_some _ (Heap.get?_push_of_some _ (Heap.get?_push_size _ rfl))
  have g2 : (zS5 b1 b2 s.heap l1 l2).get? (s.heap.push (itR b1 l1)).objs.size = some (itR b2 l2) := Heap.get?_push_of_some _ (Heap.get?_push_of_some _ (Heap.get?_push_of_some _ (Heap.get?_push_size _ itR_ok)))
  have g1 : (zS5 b1 b2 s.heap l1 l2).get? s.heap.objs.size = some (itR b1 l1) := Heap.get?_push_of_some _ (Heap.get?_push_of_some _ (Heap.get?_push_of_some _ (Heap.get?_push_of_some _ (Heap.get?_push_size _ itR_ok))))
  show _ ∧ _
  rw [z2, z3, z4] at g5
  rw [z1, z2] at g3
  rw [z3] at g4
  rw [z1] at g2
  rw [z4]
  exact ⟨⟨_, g5, rfl⟩, h _ g5 g3 g4 (itR_at g1) (itR_at g2) fun c o x => Heap.get?_push_of_some _ (Heap.get?_push_of_some _ (Heap.get?_push_of_some _ (Heap.get?_push_of_some _ (Heap.get?_push_of_some _ x))))⟩
end
def SqB (K : PySem.W.Frag) (b : Bool) (H : Hp) (a : Addr) (xs : List V) : Prop := match b with
  | true => SqT K H a xs
  | false => SqL K H a xs
theorem Inv.sqB {X : Cx} {pins : List (Addr × Obj)} {σ : St} {H : Hp} {s : Shared} {b : Bool} {a : Addr} {xs : List V} (I : Inv X pins σ H s) (h : SqB X.K b H a xs) : ∃ its : List Value, Vals xs its ∧ SSq b s.heap a its.toArray := by
  cases b with
  | true =>
    obtain ⟨its, r, p, _⟩ := I.tuple h
    exact ⟨its, r, p⟩
  | false =>
    obtain ⟨its, r, p, _⟩ := I.list h
    exact ⟨its, r, p.isList⟩
theorem Inv.sqB_inj {X : Cx} {pins : List (Addr × Obj)} {σ : St} {H : Hp} {s : Shared} {b : Bool} {a : Addr} {xs ys : List V} (I : Inv X pins σ H s) (h : SqB X.K b H a xs) (k : SqB X.K b H a ys) : xs = ys := by
  cases b with
  | true => exact I.tuple_inj h k
  | false => exact I.list_inj h k
def Itz (K : PySem.W.Frag) (b1 b2 : Bool) (l1 l2 : Addr) : It :=
  ⟨fun i H => ∃ xs ys x y, SqB K b1 H l1 xs ∧ SqB K b2 H l2 ys ∧ xs[i]? = some x ∧ ys[i]? = some y,
   fun i H v H' => ∃ p x y, v = .ref p ∧ H p = none ∧ H' = upd H p (.tup [x, y]) ∧ (∀ xs, SqB K b1 H l1 xs → xs[i]? = some x) ∧ ∀ ys, SqB K b2 H l2 ys → ys[i]? = some y,
   fun i H => ∃ xs ys, SqB K b1 H l1 xs ∧ SqB K b2 H l2 ys ∧ (xs.length ≤ i ∨ ys.length ≤ i)⟩
structure ZipSt (b1 b2 : Bool) (z TI TO i1 i2 l1 l2 : Addr) (i : Nat) (h : Heap) : Prop where
  hz : IsZip h z TI TO .none
  ti : IsPair h TI (.ref i1) (.ref i2)
  to : ∃ a c, IsPair h TO a c
  h1 : SIt b1 h i1 l1 i
  h2 : SIt b2 h i2 l2 i
structure ZipOwn (z TI TO i1 i2 : Addr) : Prop where
  TIz : TI ≠ z
  TOz : TO ≠ z
  i1z : i1 ≠ z
  i2z : i2 ≠ z
  TITO : TI ≠ TO
  TIi1 : TI ≠ i1
  TIi2 : TI ≠ i2
  TOi1 : TO ≠ i1
  TOi2 : TO ≠ i2
  i12 : i1 ≠ i2
theorem SSq.ne {b : Bool} {h : Heap} {l : Addr} {xs : Array Value} (x : SSq b h l xs) {c : Addr} (hc : ∀ o, h.get? c = some o → o.cls ≠ .type "list" ∧ o.cls ≠ .type "tuple") : l ≠ c := fun z => by
  subst z
  cases b with
  | true =>
    obtain ⟨o, e, q, _⟩ := x
    exact (hc o e).2 q
  | false =>
    obtain ⟨o, e, q, _⟩ := x
    exact (hc o e).1 q
theorem turn_zip {P : Program} {w : World} {K : PySem.W.Frag} {es : List Expr} {x1 : Nat} {pos : Pos} {b1 b2 : Bool} {z TI TO i1 i2 l1 l2 : Addr} (O : ZipOwn z TI TO i1 i2) (D : ZipApart z TI TO i1 i2 l1 l2) :
    Turn P w K (.Tuple es x1 pos) (Itz K b1 b2 l1 l2) [z, TI, TO, i1, i2] z (ZipSt b1 b2 z TI TO i1 i2 l1 l2) where
  mem := by simp
  obj := fun i h st b hb => by
    simp only [List.mem_cons, List.not_mem_nil, or_false] at hb
    obtain ⟨a, c, to⟩ := st.to
    rcases hb with rfl | rfl | rfl | rfl | rfl
    · exact ⟨_, st.hz, fun v q => by cases (show Data.fields _ = Data.cell v from q)⟩
    · exact ⟨_, st.ti, fun v q => by cases (show Data.seq _ _ = Data.cell v from q)⟩
    · exact ⟨_, to, fun v q => by cases (show Data.seq _ _ = Data.cell v from q)⟩
    · exact st.h1.rec
    · exact st.h2.rec
  keep := fun i h h' st k => by
    obtain ⟨a, c, to⟩ := st.to
    exact ⟨k z (by simp) _ st.hz, k TI (by simp) _ st.ti, ⟨a, c, k TO (by simp) _ to⟩, st.h1.mv fun o e => k i1 (by simp) o e, st.h2.mv fun o e => k i2 (by simp) o e⟩
  item := by
    intro X hP hw hK hc i pins s σ H E I hf st hg
    subst hP hw hK
    obtain ⟨xs, ys, x, y, hq1, hq2, hx, hy⟩ := hg
    obtain ⟨its1, r1, p1⟩ := I.sqB hq1
    obtain ⟨its2, r2, p2⟩ := I.sqB hq2
    obtain ⟨u1, hu1, ru1⟩ := r1.get hx
    obtain ⟨u2, hu2, ru2⟩ := r2.get hy
    obtain ⟨a, c, to⟩ := st.to
    refine zipS_item D st.hz st.ti to st.h1 st.h2 p1 p2 (by simpa using hu1) (by simpa using hu2) fun h' y1 y2 y3 y4 y5 y6 y7 => ?_
    refine ⟨_, rfl, ?_⟩
    have zl : @LT.lt Nat _ z s.heap.objs.size := Heap.lt_size st.hz
    refine wpAny_letOwnedTupleGo_zip y1 fun h2 z2 s2 => ?_
    have ext : ∀ b o, b ∉ [z, TI, TO, i1, i2] → s.heap.get? b = some o → h2.get? b = some o := fun b o nb e => by
      simp only [List.mem_cons, List.not_mem_nil, or_false, not_or] at nb
      exact s2.extBut _ _ nb.1 (y7 b o nb.1 nb.2.2.1 nb.2.2.2.1 nb.2.2.2.2 e)
    have hsz : @LE.le Nat _ s.heap.objs.size h2.objs.size := by
      have := s2.1
      have e2 : h2.objs.size = h'.objs.size := this
      omega
    have pT : IsPair h2 s.heap.objs.size u1 u2 := s2.extBut _ _ (Nat.ne_of_gt zl) y5
    have fr : H s.heap.objs.size = none := I.fresh
    have I2 : Inv X pins σ (upd H s.heap.objs.size (.tup [x, y])) { s with heap := h2 } := I.turnedT (t' := s.toks) (ch := [z, TI, TO, i1, i2]) ext hf (Nat.le_refl _)
      ⟨(by show 2 ≤ sizeLine; decide), [u1, u2], .cons ru1 (.cons ru2 .nil), ⟨_, pT, rfl, _, rfl⟩⟩
    refine ⟨.ref s.heap.objs.size, upd H s.heap.objs.size (.tup [x, y]), I2, rfl, ⟨_, x, y, rfl, fr, rfl, fun xs' hq => by rw [I.sqB_inj hq hq1]; exact hx, fun ys' hq => by rw [I.sqB_inj hq hq2]; exact hy⟩, ?_, fun b hb => ?_⟩
    · exact ⟨z2, s2.extBut _ _ O.TIz (y7 _ _ O.TIz O.TITO O.TIi1 O.TIi2 st.ti), ⟨_, _, s2.extBut _ _ O.TOz y2⟩, y3.mv fun o e => s2.extBut _ _ O.i1z e, y4.mv fun o e => s2.extBut _ _ O.i2z e⟩
    · have lt : @LT.lt Nat _ b s.heap.objs.size := by
        simp only [List.mem_cons, List.not_mem_nil, or_false] at hb
        rcases hb with rfl | rfl | rfl | rfl | rfl
        · exact zl
        · exact Heap.lt_size st.ti
        · exact Heap.lt_size to
        · obtain ⟨o, e, _⟩ := st.h1.rec; exact Heap.lt_size e
        · obtain ⟨o, e, _⟩ := st.h2.rec; exact Heap.lt_size e
      rw [upd_ne (show @Ne Nat _ _ by omega)]
      exact (hf b hb).1
  done := by
    intro X hP hw hK hc i pins s σ H E I hf st hg
    subst hP hw hK
    obtain ⟨xs, ys, hq1, hq2, hl⟩ := hg
    obtain ⟨its1, r1, p1⟩ := I.sqB hq1
    obtain ⟨its2, r2, p2⟩ := I.sqB hq2
    have hl1 := r1.length
    have hl2 := r2.length
    obtain ⟨a, c, to⟩ := st.to
    refine zipS_end (I.ok.hd hc) D st.hz st.ti to st.h1 st.h2 p1 p2 ?_ fun h' y => ⟨rfl, I.turnedL (t' := s.toks) (ch := [z, TI, TO, i1, i2]) (fun b o nb e => ?_) hf⟩
    · rcases hl with q | q
      · exact .inl (by simp; omega)
      · exact .inr (by simp; omega)
    · simp only [List.mem_cons, List.not_mem_nil, or_false, not_or] at nb
      exact y b o nb.1 nb.2.2.1 nb.2.2.2.1 nb.2.2.2.2 e
  self := fun _ _ _ _ _ st h => wpAny_pyIter_zip st.hz h
section
variable {X : Cx} {es : List Expr} {x1 : Nat} {tp : Pos} {a b : Expr} {p pos : Pos}
theorem boot_zip : bootBuiltins "zip" = some (.type "zip") := by decide +kernel
def iZip (K : PySem.W.Frag) (ta : TA) : TI := fun σ H R => ta σ H fun vs H1 => ∃ b1 b2 l1 l2 xs ys, vs = [.ref l1, .ref l2] ∧ SqB K b1 H1 l1 xs ∧ SqB K b2 H1 l2 ys ∧ R (Itz K b1 b2 l1 l2) H1
theorem pi_zip {ta : TA} (hg : Gl X "zip") (hm : X.mg "zip" = none) (ha : PA X [a, b] ta) (hs : starEach [a, b] X.env = [(false, eval a X.env), (false, eval b X.env)] := by rfl) (hs2 : starEach [b] X.env = [(false, eval b X.env)] := by rfl) :
    PI X (.Tuple es x1 tp) (.Call (.Name "zip" p) [a, b] [] pos) (iZip X.K ta) := by
  intro pins s σ H R I h
  refine Call_ (ld_blt I hg hm boot_zip (PyProof.Rows.callWith_type1 (thn (ha pos pins s σ H _ I h) fun us s1 ⟨vs, H1, I1, r1, q1⟩ => ?_) (by rw [hs, hs2]) (by rw [hs2]; rfl)))
  obtain ⟨b1, b2, l1, l2, xs, ys, e, hq1, hq2, q⟩ := q1
  subst e
  obtain ⟨u1, u2, rfl, e1, e2⟩ := vals2 r1
  cases (show u1 = Value.ref l1 from e1)
  cases (show u2 = Value.ref l2 from e2)
  obtain ⟨its1, _, p1⟩ := I1.sqB hq1
  obtain ⟨its2, _, p2⟩ := I1.sqB hq2
  refine call_zipS p1 p2 fun h' z1 z2 z3 z4 z5 k => ?_
  have lt : ∀ {bb : Bool} {l : Addr} {zs : Array Value}, SSq bb s1.heap l zs → @LT.lt Nat _ l s1.heap.objs.size := fun {bb l zs} q => by
    cases bb with
    | true => obtain ⟨o, e, _⟩ := q; exact Heap.lt_size e
    | false => obtain ⟨o, e, _⟩ := q; exact Heap.lt_size e
  have q1 := lt p1
  have q2 := lt p2
  have ne : ∀ {m n : Nat}, m ≠ n → @Ne Nat (s1.heap.objs.size + m) (s1.heap.objs.size + n) := fun h => by omega
  have O : ZipOwn (s1.heap.objs.size + 4) (s1.heap.objs.size + 2) (s1.heap.objs.size + 3) s1.heap.objs.size (s1.heap.objs.size + 1) :=
    ⟨ne (by decide), ne (by decide), ne (m := 0) (by decide), ne (by decide), ne (by decide), ne (n := 0) (by decide), ne (by decide), ne (n := 0) (by decide), ne (by decide), ne (m := 0) (by decide)⟩
  have D : ZipApart (s1.heap.objs.size + 4) (s1.heap.objs.size + 2) (s1.heap.objs.size + 3) s1.heap.objs.size (s1.heap.objs.size + 1) l1 l2 :=
    ⟨O.TIz, O.TOz, O.i1z, O.i2z, O.TITO, O.TIi1, O.TIi2, O.TOi1, O.TOi2, O.i12, (show @Ne Nat _ _ by omega), (show @Ne Nat _ _ by omega), (show @Ne Nat _ _ by omega), (show @Ne Nat _ _ by omega), (show @Ne Nat _ _ by omega), (show @Ne Nat _ _ by omega), (show @Ne Nat _ _ by omega), (show @Ne Nat _ _ by omega)⟩
  have I2 : Inv X pins σ H1 { s1 with heap := h' } := I1.kept (t' := s1.toks) k
  refine wpAny_pyIter_zip z1 ⟨_, _, _, _, H1, rfl, I2, turn_zip O D, ⟨z1, z2, ⟨_, _, z3⟩, z4, z5⟩, fun c hc => ?_, q⟩
  have hc' : @LE.le Nat _ s1.heap.objs.size c := by
    simp only [List.mem_cons, List.not_mem_nil, or_false] at hc
    rcases hc with rfl | rfl | rfl | rfl | rfl <;> omega
  exact I1.fpOk hc' (I1.hok.fresh hc')
end
end L2
namespace DL
open PySem PySem.Spec L2
section
variable {X : Cx} {K : PySem.W.Frag} {mg : Str → Option Value} {ww : World} {E : XK} {ow : List Bool} {os : List Addr} {H : Hp} {ms : Ev → R (List D)} {es : List Expr} {x1 : Nat} {tp : Pos} {a b : Expr} {p pos : Pos} {st : Bool}
def pairsD : List D → List D → List D
  | x :: xs, y :: ys => .tup [x, y] :: pairsD xs ys
  | _, _ => []
theorem pairsD_at : ∀ {xs ys : List D} {i : Nat} {d : D}, (pairsD xs ys)[i]? = some d → ∃ x y, xs[i]? = some x ∧ ys[i]? = some y ∧ d = .tup [x, y]
  | [], ys, i, d, h => by simp [pairsD] at h
  | x :: xs, [], i, d, h => by simp [pairsD] at h
  | x :: xs, y :: ys, 0, d, h => by
    simp [pairsD] at h
    exact ⟨x, y, rfl, rfl, h.symm⟩
  | x :: xs, y :: ys, i + 1, d, h => by
    obtain ⟨x', y', h1, h2, h3⟩ := pairsD_at (xs := xs) (ys := ys) (i := i) (by simpa [pairsD] using h)
    exact ⟨x', y', by simpa using h1, by simpa using h2, h3⟩
theorem pairsD_len : ∀ {xs ys : List D} {i : Nat}, (pairsD xs ys).length ≤ i → xs.length ≤ i ∨ ys.length ≤ i
  | [], ys, i, _ => .inl (Nat.zero_le _)
  | x :: xs, [], i, _ => .inr (Nat.zero_le _)
  | x :: xs, y :: ys, 0, h => by simp [pairsD] at h
  | x :: xs, y :: ys, i + 1, h => by
    rcases pairsD_len (xs := xs) (ys := ys) (i := i) (by simpa [pairsD] using h) with q | q
    · exact .inl (by simpa using q)
    · exact .inr (by simpa using q)
def zipD : List D → R (List D)
  | [x, y] => (asItems x).bind fun xs => (asItems y).bind fun ys => .ok (pairsD xs ys)
  | _ => .bad
theorem items_sq {d : D} {v : V} {ds : List D} (h : asItems d = .ok ds) (hv : IsD K mg ww (hide os H) d v) : ∃ b a xs, v = .ref a ∧ SqB K b (hide os H) a xs ∧ IsDs K mg ww (hide os H) ds xs := by
  cases d with
  | lst l =>
    cases h
    rw [IsD] at hv
    obtain ⟨a, xs, h1, h2, h3⟩ := hv
    exact ⟨false, a, xs, h1, SqL.of h2, h3⟩
  | tup l =>
    cases h
    rw [IsD] at hv
    obtain ⟨a, xs, h1, h2, h3⟩ := hv
    exact ⟨true, a, xs, h1, h2, h3⟩
  | _ => cases h
theorem Same.sqB {H H' : Hp} {b : Bool} {a : Addr} {xs : List V} (e : Same H H') (h : SqB K b H a xs) : SqB K b H' a xs := by
  cases b with
  | true => exact e.seqT h
  | false => exact e.seq h
theorem i_zip (hm : X.mg "zip" = none) (ha : PA X [a, b] (tA K mg ww .d E ow ms)) (hK : X.K = K := by rfl) (hg : Gl X "zip" := by rfl) (hs : starEach [a, b] X.env = [(false, eval a X.env), (false, eval b X.env)] := by rfl) (hs2 : starEach [b] X.env = [(false, eval b X.env)] := by rfl) :
    PI X (.Tuple es x1 tp) (.Call (.Name "zip" p) [a, b] [] pos) (tI K mg ww st E ow (mIt ms zipD)) :=
  PI.mono' (pi_zip hg hm ha hs hs2) fun σ H Q ⟨os, ρ, hd, o⟩ => by
    subst hK
    have z := outA_bindI (md' := .d) o
    refine ⟨os, ρ, hd, ?_⟩
    revert z
    cases ms ρ with
    | rse c => exact fun z => z
    | bad => exact fun z => z
    | ok ds =>
      intro z vs H1 s1 q1
      obtain ⟨d', e', _, _, z⟩ := z vs H1 s1 q1
      cases e'
      rcases ds with _ | ⟨d1, _ | ⟨d2, _ | ⟨d3, rest⟩⟩⟩
      · exact z.elim
      · exact z.elim
      · replace z : OutI X.K mg ww st E os H1 ((asItems d1).bind fun xs => (asItems d2).bind fun ys => .ok (pairsD xs ys)) Q := z
        cases q1 with
        | cons r1 t1 =>
          cases t1 with
          | cons r2 t2 =>
            cases t2
            cases e1 : asItems d1 with
            | rse c => unfold asItems at e1; split at e1 <;> cases e1
            | bad => rw [e1] at z; exact z.elim
            | ok xs =>
              cases e2 : asItems d2 with
              | rse c => unfold asItems at e2; split at e2 <;> cases e2
              | bad => rw [e1, e2] at z; exact z.elim
              | ok ys =>
                rw [e1, R.ok_bind, e2, R.ok_bind] at z
                obtain ⟨b1, l1, vs1, rfl, c1, i1⟩ := items_sq e1 r1
                obtain ⟨b2, l2, vs2, rfl, c2, i2⟩ := items_sq e2 r2
                refine ⟨b1, b2, l1, l2, vs1, vs2, rfl, Same.sqB hide_le c1, Same.sqB hide_le c2, z _ H1 (Same.refl _) ?_⟩
                intro i os' H' dm s2 _
                have k1 : SqB X.K b1 H' l1 vs1 := Same.sqB hide_le (Same.sqB s2 c1)
                have k2 : SqB X.K b2 H' l2 vs2 := Same.sqB hide_le (Same.sqB s2 c2)
                refine ⟨fun d hd => ?_, fun hl => ⟨vs1, vs2, k1, k2, ?_⟩⟩
                · obtain ⟨x, y, hx, hy, rfl⟩ := pairsD_at hd
                  obtain ⟨vx, g1, g2⟩ := i1.atD hx
                  obtain ⟨vy, g3, g4⟩ := i2.atD hy
                  refine ⟨⟨vs1, vs2, vx, vy, k1, k2, g1, g3⟩, fun v H2 ⟨pp, x', y', ev, hp, eH, a1, a2⟩ => ?_⟩
                  have f1 := a1 vs1 k1
                  have f2 := a2 vs2 k2
                  rw [g1] at f1
                  rw [g3] at f2
                  cases f1
                  cases f2
                  subst ev eH
                  refine ⟨Wv.same_new hp, ?_⟩
                  rw [IsD]
                  exact ⟨pp, _, rfl, SqT.of (hide_some.mpr ⟨fun q => dm pp q hp, upd_same⟩), IsDs.same (hide_mono (Wv.same_new hp)) _ _ (IsDs.cons (IsD.same s2 _ _ g2) (IsDs.cons (IsD.same s2 _ _ g4) IsDs.nil))⟩
                · rw [i1.len, i2.len]
                  exact pairsD_len hl
      · exact z.elim
end
end DL
namespace L2
open PySem PySem.Spec PyProof.Rows
section
variable {prog : Program} {w : World} {A : Around} {E : Value → Shared → Prop} {s : Shared}
end
section
variable {prog : Program} {w : World} {A : Around} {E : Value → Shared → Prop} {s : Shared}
end
structure EnSt (b : Bool) (e it l : Addr) (i : Nat) (h : Heap) : Prop where
  he : ∃ old, IsEnum h e it i old
  hi : SIt b h it l i
section
variable {X : Cx} {es : List Expr} {x1 : Nat} {tp : Pos} {a : Expr} {p pos : Pos}
end
end L2
namespace DL
open PySem PySem.Spec L2
section
variable {X : Cx} {K : PySem.W.Frag} {mg : Str → Option Value} {ww : World} {E : XK} {ow : List Bool} {ms : Ev → R (List D)} {es : List Expr} {x1 : Nat} {tp : Pos} {a : Expr} {p pos : Pos} {st : Bool}
end
end DL
namespace L2
open PySem PySem.Spec PyProof.Rows
section
variable {P : Program} {w : World} {K : PySem.W.Frag} {mg : Str → Option Value} {ww : World} {base : Heap}
theorem Fun.okR {x qual : Str} {st : Stmt} {f : Addr} {fd : FuncData} {N ps : List Str} {k : Nat} {sp : Sp} (F : Fun K x qual st f fd) (S : FnScope N ps (defScope st)) (len : ∀ vs H Q E, sp vs H Q E → vs.length = ps.length)
    (hbody : ∀ (cdv : Value) (A : Around) (outer : List Env) (s : Shared) (H : Hp) (vs : List V) (Q : VK) (E : XK), Room k (A.deeper (envOfC qual (defScope st) s.heap.objs.size f cdv)) → sp vs H Q E →
      ∃ t, PSs (cxOf (CX1 P w) P w K mg base N qual (defScope st) f cdv A outer s H E) (defBody st) t ∧ t { nx := fun _ H' => Q .non H', rt := Q } (start N vs) H) : FnOk P w K mg base (CX1 P w) (k + 1) f fd ps sp := by
  obtain ⟨oc, od, kV, doc, pm, an, cdv, ct, osl, rfl, lk, hcd⟩ := F.ex
  exact fn_of lk hcd S len fun A outer s H vs Q E hr hsp => hbody cdv A outer s H vs Q E hr hsp
end
end L2
namespace DL
open PySem PySem.Spec L2
inductive Fl where
  | nx (ρ : Ev) | rt (d : D) | bk (ρ : Ev) | ct (ρ : Ev)
structure Ext (own : List Addr) (H : Hp) (own' : List Addr) (H' : Hp) : Prop where
  keep : ∀ b o, b ∉ own → H b = some o → H' b = some o
  new : ∀ a ∈ own', a ∈ own ∨ H a = none
theorem Ext.same {own : List Addr} {H H' : Hp} (e : Same H H') : Ext own H own H' := ⟨fun b o _ z => e b o z, fun a z => .inl z⟩
theorem Ext.out {own own' : List Addr} {H H' : Hp} (e : Ext own H own' H') {b : Addr} {o : HO} (hb : b ∉ own) (h : H b = some o) : b ∉ own' := fun z => by
  rcases e.new b z with z | z
  · exact hb z
  · rw [h] at z
    cases z
theorem Ext.trans {own own1 own2 : List Addr} {H H1 H2 : Hp} (e : Ext own H own1 H1) (f : Ext own1 H1 own2 H2) : Ext own H own2 H2 where
  keep := fun b o hb h => f.keep b o (e.out hb h) (e.keep b o hb h)
  new := fun a ha => by
    rcases f.new a ha with z | z
    · exact e.new a z
    · by_cases hb : a ∈ own
      · exact .inl hb
      · cases q : H a with
        | none => exact .inr rfl
        | some o =>
          rw [e.keep a o hb q] at z
          cases z
theorem Ext.hide {own own' fro : List Addr} {H H' : Hp} (e : Ext own H own' H') : Same (DL.hide (own ++ fro) H) (DL.hide (own' ++ fro) H') := fun b o z => by
  obtain ⟨z1, z2⟩ := hide_some.mp z
  have n1 : b ∉ own := fun q => z1 (List.mem_append_left _ q)
  have n2 : b ∉ fro := fun q => z1 (List.mem_append_right _ q)
  refine hide_some.mpr ⟨fun q => ?_, e.keep b o n1 z2⟩
  rcases List.mem_append.mp q with q | q
  · exact e.out n1 z2 q
  · exact n2 q
section
variable (K : PySem.W.Frag) (mg : Str → Option Value) (ww : World) (ow : List Bool)
structure StI (fro own : List Addr) (H : Hp) (σ : St) (ρ : Ev) : Prop where
  hd : Hd K mg ww ow (own ++ fro) H σ ρ
  mine : ∀ i a d, ow.getD i false = true → ρ[i]? = some (some d) → σ[i]? = some (some (.ref a)) → a ∈ own
  off : ∀ a ∈ own, a ∉ fro
def Keep (own : List Addr) (H H' : Hp) : Prop := ∀ b o, b ∉ own → H b = some o → H' b = some o
def OutS (E : XK) (fro own : List Addr) (H : Hp) (r : R Fl) (Dn : Ends) : Prop := match r with
  | .ok (.nx ρ') => ∀ own' σ' H', Ext own H own' H' → StI K mg ww ow fro own' H' σ' ρ' → Dn.nx σ' H'
  | .ok (.bk ρ') => ∀ own' σ' H', Ext own H own' H' → StI K mg ww ow fro own' H' σ' ρ' → Dn.bk σ' H'
  | .ok (.ct ρ') => ∀ own' σ' H', Ext own H own' H' → StI K mg ww ow fro own' H' σ' ρ' → Dn.ct σ' H'
  | .ok (.rt d) => ∀ v H', Keep own H H' → IsD K mg ww (hide fro H') d v → Dn.rt v H'
  | .rse c => ∃ C, mg c = some (.ref C) ∧ ∀ H', Keep own H H' → E (.ref C) none H'
  | .bad => False
def tS (E : XK) (m : Ev → R Fl) : TS := fun Dn σ H => ∃ fro own ρ, StI K mg ww ow fro own H σ ρ ∧ OutS K mg ww ow E fro own H (m ρ) Dn
end
section
variable {X : Cx} {K : PySem.W.Frag} {mg : Str → Option Value} {ww : World} {ow : List Bool} {E : XK} {fro own own' : List Addr} {H H' : Hp} {σ : St} {ρ : Ev}
theorem StI.same (h : StI K mg ww ow fro own H σ ρ) (e : Same H H') : StI K mg ww ow fro own H' σ ρ := ⟨h.hd.same e, h.mine, h.off⟩
theorem Ext.keepT {own1 : List Addr} {H1 H2 : Hp} (e : Ext own H own1 H1) (k : Keep own1 H1 H2) : Keep own H H2 := fun b o hb h => k b o (e.out hb h) (e.keep b o hb h)
theorem OutS.ext {r : R Fl} {Dn : Ends} (h : OutS K mg ww ow E fro own H r Dn) (e : Ext own H own' H') : OutS K mg ww ow E fro own' H' r Dn := by
  cases r with
  | ok f =>
    cases f with
    | nx ρ' => exact fun o2 σ2 H2 e2 s2 => h o2 σ2 H2 (e.trans e2) s2
    | bk ρ' => exact fun o2 σ2 H2 e2 s2 => h o2 σ2 H2 (e.trans e2) s2
    | ct ρ' => exact fun o2 σ2 H2 e2 s2 => h o2 σ2 H2 (e.trans e2) s2
    | rt d => exact fun v H2 k i => h v H2 (e.keepT k) i
  | rse c =>
    obtain ⟨C, h1, h2⟩ := h
    exact ⟨C, h1, fun H2 k => h2 H2 (e.keepT k)⟩
  | bad => exact h
theorem Same.keep {own : List Addr} {H H' : Hp} (e : Same H H') : Keep own H H' := fun b o _ z => e b o z
theorem outS_bind {md : Md} {r : R D} {k : D → R Fl} {Dn : Ends} (o : OutS K mg ww ow E fro own H (r.bind k) Dn) : Out K mg ww md E (own ++ fro) H r (fun v H1 => ∃ d, r = .ok d ∧ Same H H1 ∧ Rep K mg ww md H (own ++ fro) H1 d v ∧ OutS K mg ww ow E fro own H1 (k d) Dn) := by
  cases r with
  | ok d => exact fun v H1 s q => ⟨d, rfl, s, q, OutS.ext o (Ext.same s)⟩
  | rse c =>
    obtain ⟨C, h1, h2⟩ := o
    exact ⟨C, h1, fun H2 s => h2 H2 (Same.keep s)⟩
  | bad => exact o
theorem outS_bindT {r : R Bool} {k : Bool → R Fl} {Dn : Ends} (o : OutS K mg ww ow E fro own H (r.bind k) Dn) : OutT mg E H r (fun b H1 => r = .ok b ∧ Same H H1 ∧ OutS K mg ww ow E fro own H1 (k b) Dn) := by
  cases r with
  | ok d => exact fun H1 s => ⟨rfl, s, OutS.ext o (Ext.same s)⟩
  | rse c =>
    obtain ⟨C, h1, h2⟩ := o
    exact ⟨C, h1, fun H2 s => h2 H2 (Same.keep s)⟩
  | bad => exact o
variable {st : Stmt} {rest : List Stmt} {m1 m2' : Ev → R Fl} {e c : Expr} {m : Ev → R D} {t : Ev → R Bool} {pos : Pos}
def sNil : Ev → R Fl := fun ρ => .ok (.nx ρ)
def sSeq (m1 m2 : Ev → R Fl) : Ev → R Fl := fun ρ => (m1 ρ).bind fun f => match f with
  | .nx ρ' => m2 ρ'
  | f => .ok f
theorem ss_nil : PSs X [] (tS K mg ww ow E sNil) := pss_nil.mono fun Dn σ H ⟨fro, own, ρ, h, o⟩ => o own σ H (Ext.same (Same.refl H)) h
theorem ss_one (h : PS X st (tS K mg ww ow E m1)) : PSs X [st] (tS K mg ww ow E m1) := pss_one h
theorem ss_cons (h1 : PS X st (tS K mg ww ow E m1)) (h2 : PSs X rest (tS K mg ww ow E m2')) : PSs X (st :: rest) (tS K mg ww ow E (sSeq m1 m2')) := (pss_cons h1 h2).mono fun Dn σ H ⟨fro, own, ρ, h, o⟩ => by
  refine ⟨fro, own, ρ, h, ?_⟩
  unfold sSeq at o
  revert o
  cases m1 ρ with
  | ok f =>
    cases f with
    | nx ρ' => exact fun o own2 σ2 H2 e2 s2 => ⟨fro, own2, ρ', s2, OutS.ext o e2⟩
    | bk ρ' => exact fun o => o
    | ct ρ' => exact fun o => o
    | rt d => exact fun o => o
  | rse c => exact fun o => o
  | bad => exact fun o => o
def sRet (m : Ev → R D) : Ev → R Fl := fun ρ => (m ρ).bind fun d => .ok (.rt d)
theorem s_ret (h : PE X e (tE K mg ww .d E ow m)) : PS X (.Return (some e) pos) (tS K mg ww ow E (sRet m)) := (ps_ret h).mono fun Dn σ H ⟨fro, own, ρ, h, o⟩ => by
  refine ⟨own ++ fro, ρ, h.hd, ?_⟩
  have z := outS_bind (md := .d) o
  revert z
  cases m ρ with
  | ok d =>
    intro z v H1 s1 q1
    obtain ⟨d', e', _, q, z⟩ := z v H1 s1 q1
    cases e'
    exact z v H1 (Same.keep (Same.refl H1)) (IsD.same (hide_sub fun a ha => List.mem_append_right _ ha) _ _ q1)
  | rse c => exact fun z => z
  | bad => exact fun z => z
theorem s_retV (i : Nat) {x : Str} {pos' : Pos} (ho : ow.getD i false = true := by rfl) (hN : X.N[i]? = some x := by rfl) (hv : Vis X.env.scope x := by first | exact Or.inl rfl | exact Or.inr (Or.inl rfl) | exact Or.inr (Or.inr rfl))
    (hd : (x == ("__debug__" : Str)) = false := by decide) (hcd : (x == ("__classdict__" : Str)) = false := by decide) : PS X (.Return (some (.Name x pos')) pos) (tS K mg ww ow E (sRet (mV i))) := (ps_ret (pe_var hN hv hd hcd)).mono fun Dn σ H ⟨fro, own, ρ, h, o⟩ => by
  unfold sRet mV at o
  split at o
  · rename_i d hi
    obtain ⟨a, h1, h2, h3⟩ := h.hd.own i d ho hi
    have ha := h.mine i a d ho hi h1
    exact ⟨_, h1, o _ H (Same.keep (Same.refl H)) (h3.to (h.off a ha) (hide_sub fun b hb => List.mem_append_right _ hb))⟩
  · exact o.elim
def sSet (i : Nat) (m : Ev → R D) : Ev → R Fl := fun ρ => (m ρ).bind fun d => .ok (.nx (ρ.set i (some d)))
theorem StI.set (h : StI K mg ww ow fro own H σ ρ) {i : Nat} {d : D} {v : V} (hi : ow.getD i false = false) (hv : IsD K mg ww (hide (own ++ fro) H) d v) : StI K mg ww ow fro own H (σ.set i (some v)) (ρ.set i (some d)) where
  hd := h.hd.set hi hv
  mine := fun j a e h1 h2 h3 => by
    have hj : i ≠ j := fun z => by
      subst z
      rw [hi] at h1
      cases h1
    rw [List.getElem?_set_ne hj] at h2 h3
    exact h.mine j a e h1 h2 h3
  off := h.off
theorem set_go {i : Nat} {Dn : Ends} (ho : ow.getD i false = false) (h : tS K mg ww ow E (sSet i m) Dn σ H) : tE K mg ww .d E ow m σ H fun x H1 => gName i x σ H1 Dn.nx := by
  obtain ⟨fro, own, ρ, h, o⟩ := h
  refine ⟨own ++ fro, ρ, h.hd, ?_⟩
  have z := outS_bind (md := .d) o
  revert z
  cases m ρ with
  | ok d =>
    intro z v H1 s1 q1
    obtain ⟨d', e', _, q, z⟩ := z v H1 s1 q1
    cases e'
    exact z own _ H1 (Ext.same (Same.refl H1)) ((h.same s1).set ho q1)
  | rse c => exact fun z => z
  | bad => exact fun z => z
theorem s_set {i : Nat} {x : Str} {pos' : Pos} (hN : X.N.Nodup) (he : PE X e (tE K mg ww .d E ow m)) (ho : ow.getD i false = false := by rfl) (hi : X.N[i]? = some x := by rfl) (hx : Loc X.env.scope x := by first | exact Or.inl rfl | exact Or.inr rfl)
    (hs : swapsWith e (some (.Name x pos')) pos.line X.env = pure false := by rfl) (hf : X.fn x = true ∨ X.env.scope.names.lookup x = some .local := by first | exact .inl rfl | exact .inr rfl | assumption) : PS X (.Assign [.Name x pos'] e pos) (tS K mg ww ow E (sSet i m)) :=
  (ps_set hN hi hx he hs hf).mono fun Dn σ H h => set_go ho h
theorem StI.setF (h : StI K mg ww ow fro own H σ ρ) {i : Nat} {d : D} {a : Addr} (s : Same H H') (h0 : H a = none) (hv : ObjD K mg ww (hide (a :: (own ++ fro)) H') a (H' a) d) (hi : ow.getD i false = true) : StI K mg ww ow fro (a :: own) H' (σ.set i (some (.ref a))) (ρ.set i (some d)) where
  hd := by
    obtain ⟨u, hu⟩ := hv.ex
    have hm := h.hd.more s h0 (by rw [hu]; simp)
    refine ⟨by rw [List.length_set, List.length_set]; exact h.hd.len, hm.dom, fun j e h1 h2 => ?_, fun j e h1 h2 => ?_, fun j k b e e' n h1 h2 h3 h4 h5 h6 => ?_⟩
    · have hj : i ≠ j := fun z => by
        subst z
        rw [hi] at h1
        cases h1
      rw [List.getElem?_set_ne hj] at h2 ⊢
      exact hm.imm j e h1 h2
    · by_cases hj : i = j
      · subst hj
        have hlt : i < ρ.length := by
          have := (List.getElem?_eq_some_iff.mp h2).1
          simpa using this
        rw [List.getElem?_set_self hlt] at h2
        cases h2
        exact ⟨a, List.getElem?_set_self (by rw [h.hd.len]; exact hlt), List.mem_cons_self, hv⟩
      · rw [List.getElem?_set_ne hj] at h2 ⊢
        exact hm.own j e h1 h2
    · have old : ∀ k e, i ≠ k → ow.getD k false = true → ρ[k]? = some (some e) → σ[k]? ≠ some (some (.ref a)) := fun k e _ z1 z2 z3 => by
        obtain ⟨b, y1, y2, _⟩ := h.hd.own k e z1 z2
        rw [y1] at z3
        cases z3
        exact h.hd.dom _ y2 h0
      by_cases hj : i = j
      · subst hj
        have hk : i ≠ k := n
        have hlt : i < σ.length := by
          have := (List.getElem?_eq_some_iff.mp h5).1
          simpa using this
        rw [List.getElem?_set_self hlt] at h5
        cases h5
        rw [List.getElem?_set_ne hk] at h4 h6
        exact old k e' hk h2 h4 h6
      · by_cases hk : i = k
        · subst hk
          have hlt : i < σ.length := by
            have := (List.getElem?_eq_some_iff.mp h6).1
            simpa using this
          rw [List.getElem?_set_self hlt] at h6
          cases h6
          rw [List.getElem?_set_ne hj] at h3 h5
          exact old j e hj h1 h3 h5
        · rw [List.getElem?_set_ne hj] at h3 h5
          rw [List.getElem?_set_ne hk] at h4 h6
          exact h.hd.apart j k b e e' n h1 h2 h3 h4 h5 h6
  mine := fun j b e h1 h2 h3 => by
    by_cases hj : i = j
    · subst hj
      have hlt : i < σ.length := by
        have := (List.getElem?_eq_some_iff.mp h3).1
        simpa using this
      rw [List.getElem?_set_self hlt] at h3
      cases h3
      exact List.mem_cons_self
    · rw [List.getElem?_set_ne hj] at h2 h3
      exact List.mem_cons_of_mem _ (h.mine j b e h1 h2 h3)
  off := fun b hb => by
    rcases List.mem_cons.mp hb with z | z
    · subst z
      exact fun q => h.hd.dom b (List.mem_append_right _ q) h0
    · exact h.off b z
theorem setF_go {i : Nat} {Dn : Ends} (ho : ow.getD i false = true) (h : tS K mg ww ow E (sSet i m) Dn σ H) : tE K mg ww .f E ow m σ H fun x H1 => gName i x σ H1 Dn.nx := by
  obtain ⟨fro, own, ρ, h, o⟩ := h
  refine ⟨own ++ fro, ρ, h.hd, ?_⟩
  unfold sSet at o
  revert o
  cases m ρ with
  | ok d =>
    intro o v H1 s1 q1
    obtain ⟨a, rfl, h0, hv⟩ := q1
    refine o (a :: own) _ H1 ⟨fun b o' _ z => s1 b o' z, fun b hb => ?_⟩ (h.setF s1 h0 hv ho)
    rcases List.mem_cons.mp hb with z | z
    · rw [z]
      exact .inr h0
    · exact .inl z
  | rse c =>
    rintro ⟨C, h1, h2⟩
    exact ⟨C, h1, fun H2 s => h2 H2 (Same.keep s)⟩
  | bad => exact fun z => z
theorem s_setF {i : Nat} {x : Str} {pos' : Pos} (hN : X.N.Nodup) (he : PE X e (tE K mg ww .f E ow m)) (ho : ow.getD i false = true := by rfl) (hi : X.N[i]? = some x := by rfl) (hx : Loc X.env.scope x := by first | exact Or.inl rfl | exact Or.inr rfl)
    (hs : swapsWith e (some (.Name x pos')) pos.line X.env = pure false := by rfl) (hf : X.fn x = true ∨ X.env.scope.names.lookup x = some .local := by first | exact .inl rfl | exact .inr rfl | assumption) : PS X (.Assign [.Name x pos'] e pos) (tS K mg ww ow E (sSet i m)) :=
  (ps_set hN hi hx he hs hf).mono fun Dn σ H h => setF_go ho h
theorem fd_go {Q : VK} (h : tE K mg ww .d E ow m σ H Q) : tE K mg ww .f E ow m σ H Q := by
  obtain ⟨os, ρ, hd, o⟩ := h
  refine ⟨os, ρ, hd, ?_⟩
  revert o
  cases m ρ with
  | ok d => exact fun o v H' s q => o v H' s (q.fd hd.dom)
  | rse c => exact fun o => o
  | bad => exact fun o => o
section
variable {scope : Scope} {N' : List Str} {src : List (Option Nat)} {elt tg iter : Expr} {ifs : List Expr} {p py spos : Pos} {mi : Ev → R (List D)} {g : D → Ev → R Ev} {t' : Ev → R Bool} {e' : Ev → R D} {i : Nat} {y : Str}
theorem s_setLc (hN : X.N.Nodup) (L : LcOk X scope N' src) (hi : PI X tg iter (tI K mg ww true E ow mi)) (hg : ∀ C s2 H1 fp, PG (compCx X scope C N' s2 H1 fp) tg (tG K mg ww (src.map (pickO ow)) g)) (ht : ∀ C s2 H1 fp, PTL (compCx X scope C N' s2 H1 fp) ifs (tT K mg ww E0 (src.map (pickO ow)) t'))
    (he : ∀ C s2 H1 fp, PE (compCx X scope C N' s2 H1 fp) elt (tE K mg ww .d E0 (src.map (pickO ow)) e')) (hsub : ∀ ρ d ρ1, g d (src.map (pickD ρ)) = .ok ρ1 → Sub (src.map (pickD ρ)) ρ1) (hsrc : SrcOk src) (ho : ow.getD i false = false := by rfl) (hc : X.calm = true := by rfl)
    (hy : X.N[i]? = some y := by rfl) (hx : Loc X.env.scope y := by first | exact Or.inl rfl | exact Or.inr rfl)
    (hsw : swapsWith (.ListComp elt [⟨tg, iter, ifs, 0⟩] scope p) (some (.Name y py)) spos.line X.env = pure true := by rfl)
    (hs : ∀ x, foldedSetIterable iter X.env x = pure x := by intro _; rfl) (hf : X.fn y = true ∨ X.env.scope.names.lookup y = some .local := by first | exact .inl rfl | exact .inr rfl | assumption) :
    PS X (.Assign [.Name y py] (.ListComp elt [⟨tg, iter, ifs, 0⟩] scope p) spos) (tS K mg ww ow E (sSet i (mLc mi src g t' e'))) := (ps_setLc hc hN hy hx L hi hg ht he hsw hs hf).mono fun Dn σ H h => lc_go hsub hsrc (fd_go (set_go ho h))
end
def sIf (t : Ev → R Bool) (m1 m2 : Ev → R Fl) : Ev → R Fl := fun ρ => (t ρ).bind fun k => if k = true then m1 ρ else m2 ρ
theorem s_if {a b : List Stmt} (hc : PT X c (tT K mg ww E ow t)) (ha : PSs X a (tS K mg ww ow E m1)) (hb : PSs X b (tS K mg ww ow E m2')) : PS X (.If c a b pos) (tS K mg ww ow E (sIf t m1 m2')) := (ps_if hc ha hb).mono fun Dn σ H ⟨fro, own, ρ, h, o⟩ => by
  refine ⟨own ++ fro, ρ, h.hd, ?_⟩
  have z := outS_bindT o
  revert z
  cases t ρ with
  | ok k =>
    intro z H1 s1
    obtain ⟨_, _, z⟩ := z H1 s1
    cases k with
    | true =>
      rw [if_pos rfl] at z ⊢
      exact ⟨fro, own, ρ, h.same s1, z⟩
    | false =>
      rw [if_neg Bool.false_ne_true] at z ⊢
      exact ⟨fro, own, ρ, h.same s1, z⟩
  | rse c => exact fun z => z
  | bad => exact fun z => z
theorem StI.write (h : StI K mg ww ow fro own H σ ρ) {i : Nat} {a : Addr} {o : HO} {d d0 : D} (ho : ow.getD i false = true) (hi : ρ[i]? = some (some d0)) (ha : σ[i]? = some (some (.ref a))) (hv : ObjD K mg ww (hide (own ++ fro) H) a (some o) d) : StI K mg ww ow fro own (upd H a o) σ (ρ.set i (some d)) where
  hd := by
    have hm : a ∈ own ++ fro := List.mem_append_left _ (h.mine i a d0 ho hi ha)
    have hlt := (List.getElem?_eq_some_iff.mp hi).1
    refine ⟨by rw [List.length_set]; exact h.hd.len, fun b hb => ?_, fun j e h1 h2 => ?_, fun j e h1 h2 => ?_, fun j k b e e' n h1 h2 h3 h4 h5 h6 => ?_⟩
    · by_cases hb' : b = a
      · rw [hb', upd_same]
        simp
      · rw [upd_ne hb']
        exact h.hd.dom b hb
    · have hj : i ≠ j := fun z => by
        subst z
        rw [ho] at h1
        cases h1
      rw [List.getElem?_set_ne hj] at h2
      rw [hide_upd hm]
      exact h.hd.imm j e h1 h2
    · by_cases hj : i = j
      · subst hj
        rw [List.getElem?_set_self hlt] at h2
        cases h2
        refine ⟨a, ha, hm, ?_⟩
        rw [hide_upd hm, upd_same]
        exact hv
      · rw [List.getElem?_set_ne hj] at h2
        obtain ⟨b, z1, z2, z3⟩ := h.hd.own j e h1 h2
        refine ⟨b, z1, z2, ?_⟩
        rw [hide_upd hm, upd_ne fun z => h.hd.apart i j a d0 e hj ho h1 hi h2 ha (by rw [← z]; exact z1)]
        exact z3
    · have sw : ∀ {k e}, ow.getD k false = true → (ρ.set i (some d))[k]? = some (some e) → ∃ e', ρ[k]? = some (some e') := fun {k e} z1 z2 => by
        by_cases hk : i = k
        · subst hk
          exact ⟨d0, hi⟩
        · rw [List.getElem?_set_ne hk] at z2
          exact ⟨e, z2⟩
      obtain ⟨f1, g1⟩ := sw h1 h3
      obtain ⟨f2, g2⟩ := sw h2 h4
      exact h.hd.apart j k b f1 f2 n h1 h2 g1 g2 h5 h6
  mine := fun j b e h1 h2 h3 => by
    by_cases hj : i = j
    · subst hj
      exact h.mine i b d0 h1 hi h3
    · rw [List.getElem?_set_ne hj] at h2
      exact h.mine j b e h1 h2 h3
  off := h.off
def sApp (i : Nat) (m : Ev → R D) : Ev → R Fl := fun ρ => match ρ[i]? with
  | some (some (.lst ds)) => (m ρ).bind fun d => if ds.length ≤ 100000 then .ok (.nx (ρ.set i (some (.lst (ds ++ [d]))))) else .bad
  | _ => .bad
theorem s_app {i : Nat} {x : Str} {p1 p2 p3 p4 : Pos} (he : PE X e (tE K mg ww .d E ow m)) (ho : ow.getD i false = true := by rfl) (hN : X.N[i]? = some x := by rfl) (hv : Vis X.env.scope x := by first | exact Or.inl rfl | exact Or.inr (Or.inl rfl) | exact Or.inr (Or.inr rfl))
    (hd : (x == ("__debug__" : Str)) = false := by decide) (hcd : (x == ("__classdict__" : Str)) = false := by decide)
    (hbase : attributeBase (.Name x p1) "append" X.env (eval (.Name x p1) X.env) = eval (.Name x p1) X.env := by rfl)
    (hfew : ((backTo p3 (starEach [e] X.env)).all (fun x => !x.1) && (backToKw p3 (keywordEach [] X.env)).all (fun x => x.1.isSome) && decide ([e].length + ([] : List Keyword).length + (if ([] : List Keyword).isEmpty then 0 else 1) < 30)) = true := by rfl)
    (hline : (p2.endLine == p3.line) = true := by rfl) (hst : starEach [e] X.env = (false, eval e X.env) :: starEach [] X.env := by rfl) (hplain : (backTo p3 (starEach [] X.env)).any (·.1) = false := by rfl)
    (hs : swapsWith (.Call (.Attribute (.Name x p1) "append" p2) [e] [] p3) none p4.line X.env = pure false := by rfl) :
    PS X (.Expr (.Call (.Attribute (.Name x p1) "append" p2) [e] [] p3) p4) (tS K mg ww ow E (sApp i m)) :=
  (ps_expr (pe_bm PySem.F.plainAttrs_list PySem.F.slot_list_append PySem.F.type_list_append mt_append (pe_var hN hv hd hcd) (pa_cons he pa_nil hst) hbase hfew hline hst hplain) hs).mono fun Dn σ H ⟨fro, own, ρ, h, o⟩ => by
    unfold sApp at o
    split at o
    · rename_i ds hi
      obtain ⟨a, h1, h2, xs, h3, h4⟩ := h.hd.own i _ ho hi
      refine ⟨_, h1, .inl ⟨rfl, xs, SqL.of h3⟩, own ++ fro, ρ, h.hd, ?_⟩
      have z := outS_bind (md := .d) o
      revert z
      cases m ρ with
      | ok d =>
        intro z v H1 s1 q1
        obtain ⟨d', e', _, q, z⟩ := z v H1 s1 q1
        cases e'
        split at z
        · rename_i hl
          have h' := h.same s1
          refine ⟨a, xs, v, rfl, rfl, s1 _ _ h3, ?_, ?_⟩
          · rw [h4.len, sizeLine_eq]
            omega
          · refine z own σ _ ⟨fun b o' hb z => ?_, fun b hb => .inl hb⟩ (h'.write ho hi h1 ⟨xs ++ [v], rfl, (IsDs.same (hide_mono s1) _ _ h4).append (IsDs.cons q1 IsDs.nil)⟩)
            rw [upd_ne fun q => hb (by rw [q]; exact h.mine i a _ ho hi h1)]
            exact z
        · exact z.elim
      | rse c => exact fun z => z
      | bad => exact fun z => z
    · exact o.elim
def forD (g : D → Ev → R Ev) (mb : Ev → R Fl) : List D → Ev → R Fl
  | [], ρ => .ok (.nx ρ)
  | d :: ds, ρ => (nr (g d ρ)).bind fun ρ1 => (mb ρ1).bind fun f => match f with
    | .nx ρ2 => forD g mb ds ρ2
    | .ct ρ2 => forD g mb ds ρ2
    | .bk ρ2 => .ok (.nx ρ2)
    | .rt d => .ok (.rt d)
def sFor (mi : Ev → R (List D)) (g : D → Ev → R Ev) (mb : Ev → R Fl) : Ev → R Fl := fun ρ => (mi ρ).bind fun items => forD g mb items ρ
variable {tg iter : Expr} {body : List Stmt} {mi : Ev → R (List D)} {g : D → Ev → R Ev} {mb : Ev → R Fl}
def Again (K : PySem.W.Frag) (mg : Str → Option Value) (ww : World) (ow : List Bool) (E : XK) (fro own : List Addr) (H1 : Hp) (k : Ev → R Fl) (Dn : Ends) (σ2 : St) (H2 : Hp) : Prop := ∃ own2 ρ2, StI K mg ww ow fro own2 H2 σ2 ρ2 ∧ Ext own H1 own2 H2 ∧ OutS K mg ww ow E fro own2 H2 (k ρ2) Dn
theorem body_go {k : Ev → R Fl} {Dn : Ends} {own0 : List Addr} {H0 : Hp} (h : StI K mg ww ow fro own H σ ρ) (x0 : Ext own0 H0 own H) (o : OutS K mg ww ow E fro own H ((mb ρ).bind fun f => match f with
    | .nx ρ2 => k ρ2
    | .ct ρ2 => k ρ2
    | .bk ρ2 => .ok (.nx ρ2)
    | .rt d => .ok (.rt d)) Dn) : tS K mg ww ow E mb { Dn with nx := Again K mg ww ow E fro own0 H0 k Dn, ct := Again K mg ww ow E fro own0 H0 k Dn, bk := Dn.nx } σ H := by
  refine ⟨fro, own, ρ, h, ?_⟩
  revert o
  cases mb ρ with
  | ok f =>
    cases f with
    | nx ρ2 => exact fun o own2 σ2 H2 e2 s2 => ⟨own2, ρ2, s2, x0.trans e2, OutS.ext o e2⟩
    | ct ρ2 => exact fun o own2 σ2 H2 e2 s2 => ⟨own2, ρ2, s2, x0.trans e2, OutS.ext o e2⟩
    | bk ρ2 => exact fun o => o
    | rt d => exact fun o => o
  | rse c => exact fun o => o
  | bad => exact fun o => o
theorem s_for (hp : PassesOwn (model X.prog X.w) X.A X.env X.xe) (hi : PI X tg iter (tI K mg ww false E ow mi)) (hg : PG X tg (tG K mg ww ow g)) (hb : PSs X body (tS K mg ww ow E mb)) (hc : X.calm = true := by rfl) (hs : ∀ x, foldedSetIterable iter X.env x = pure x := by intro _; rfl) :
    PS X (.For tg iter body [] pos) (tS K mg ww ow E (sFor mi g mb)) := (ps_for hp hc hi hg hb hs).mono fun Dn σ H ⟨fro, own, ρ, h, o⟩ => by
  refine ⟨own ++ fro, ρ, h.hd, ?_⟩
  unfold sFor at o
  revert o
  cases mi ρ with
  | rse c =>
    rintro ⟨C, h1, h2⟩
    exact ⟨C, h1, fun H2 s => h2 H2 (Same.keep s)⟩
  | bad => exact fun o => o
  | ok items =>
    rw [R.ok_bind]
    intro o J H1 s1 it
    refine ⟨fun i m σ' H' => m = items.length - i ∧ i ≤ items.length ∧ Again K mg ww ow E fro own H1 (forD g mb (items.drop i)) Dn σ' H', ⟨items.length, by simp, Nat.zero_le _, own, ρ, h.same s1, Ext.same (Same.refl H1), by rw [List.drop_zero]; exact OutS.ext o (Ext.same s1)⟩, ?_⟩
    rintro i m σ' H' ⟨rfl, hi, own', ρ', h', x', o'⟩
    obtain ⟨it1, it2⟩ := it i (own' ++ fro) H' h'.hd.dom x'.hide fun z => by cases z
    by_cases hlt : i < items.length
    · obtain ⟨go, yl⟩ := it1 _ (List.getElem?_eq_getElem hlt)
      refine .inr ⟨go, Again K mg ww ow E fro own H1 (forD g mb (items.drop (i + 1))) Dn, fun σ2 H2 w => ⟨items.length - (i + 1), by omega, rfl, hlt, w⟩, fun x H2 y => ?_⟩
      obtain ⟨s2, hx⟩ := yl x H2 y
      rw [List.drop_eq_getElem_cons hlt, forD] at o'
      refine ⟨own' ++ fro, ρ', items[i], h'.hd.same s2, hx, ?_⟩
      revert o'
      cases g items[i] ρ' with
      | rse c => exact fun o' => o'.elim
      | bad => exact fun o' => o'.elim
      | ok ρ1 =>
        intro o' σ2 ks hd2
        have h2 : StI K mg ww ow fro own' H2 σ2 ρ1 := ⟨hd2, fun j a d z1 z2 z3 => h'.mine j a d z1 (by rw [← (ks j z1).2]; exact z2) (by rw [← (ks j z1).1]; exact z3), h'.off⟩
        exact body_go h2 (x'.trans (Ext.same s2)) (OutS.ext o' (Ext.same s2))
    · have e1 : i = items.length := by omega
      subst e1
      rw [List.drop_length, forD] at o'
      exact .inl ⟨it2 (Nat.le_refl _), o' own' σ' H' (Ext.same (Same.refl H')) h'⟩
def sAsg (g : D → Ev → R Ev) (m : Ev → R D) : Ev → R Fl := fun ρ => (m ρ).bind fun d => (nr (g d ρ)).bind fun ρ' => .ok (.nx ρ')
theorem s_asg (he : PE X e (tE K mg ww .d E ow m)) (hg : PG X tg (tG K mg ww ow g)) (hs : swapsWithSole [tg] e pos.line X.env = pure false := by rfl) (hw : swappedStores [tg] e X.env = pure none := by rfl) (h1 : (assignEach [tg] X.env).map (·.2) = [assign tg X.env] := by rfl) :
    PS X (.Assign [tg] e pos) (tS K mg ww ow E (sAsg g m)) := (ps_asg he hg hs hw h1).mono fun Dn σ H ⟨fro, own, ρ, h, o⟩ => by
  refine ⟨own ++ fro, ρ, h.hd, ?_⟩
  have z := outS_bind (md := .d) o
  revert z
  cases m ρ with
  | ok d =>
    intro z v H1 s1 q1
    obtain ⟨d', e', _, q, z⟩ := z v H1 s1 q1
    cases e'
    refine ⟨own ++ fro, ρ, d, h.hd.same s1, q1, ?_⟩
    revert z
    cases g d ρ with
    | rse c => exact fun z => z.elim
    | bad => exact fun z => z.elim
    | ok ρ1 =>
      intro z σ2 ks hd2
      exact z own σ2 H1 (Ext.same (Same.refl H1)) ⟨hd2, fun j a d z1 z2 z3 => h.mine j a d z1 (by rw [← (ks j z1).2]; exact z2) (by rw [← (ks j z1).1]; exact z3), h.off⟩
  | rse c => exact fun z => z
  | bad => exact fun z => z
def sRse (c : Str) (ms : Ev → R (List D)) : Ev → R Fl := fun ρ => (ms ρ).bind fun ds => if ds.length ≤ 1000 then .rse c else .bad
theorem s_raise {x : Str} {C : Addr} {np cpos : Pos} {es : List Expr} {ms : Ev → R (List D)} (hcl : ExcCls X.K C) (hm : X.mg x = some (.ref C)) (hmg : mg x = some (.ref C)) (ha : PA X (e :: es) (tA K mg ww .d E ow ms))
    (hR : ∀ pins σ H s h' ea args, Inv X pins σ H s → E (.ref C) none H → Heap.MadeExcOf s.heap h' ea (.ref C) args → X.xe (.ref ea) { s with heap := h' }) (hc : X.calm = true := by rfl) (hg : Gl X x := by rfl)
    (he : starEach (e :: es) X.env = (false, eval e X.env) :: starEach es X.env := by rfl) (hpl : (backTo cpos (starEach es X.env)).any (·.1) = false := by rfl) (hdb : (x == ("__debug__" : Str)) = false := by decide) :
    PS X (.Raise (some (.Call (.Name x np) (e :: es) [] cpos)) none pos) (tS K mg ww ow E (sRse x ms)) := (ps_raise (R := fun H => E (.ref C) none H) hc hcl hg hm ha hR he hpl hdb).mono fun Dn σ H ⟨fro, own, ρ, h, o⟩ => by
  refine ⟨own ++ fro, ρ, h.hd, ?_⟩
  unfold sRse at o
  revert o
  cases ms ρ with
  | ok ds =>
    intro o vs H1 s1 q1
    have hd1 := isDs_of q1
    rw [R.ok_bind] at o
    split at o
    · rename_i hl
      obtain ⟨C', h1, h2⟩ := o
      rw [hmg] at h1
      cases h1
      exact ⟨by rw [hd1.len]; exact big1000 hl, h2 H1 (Same.keep s1)⟩
    · exact o.elim
  | rse c =>
    rintro ⟨C, h1, h2⟩
    exact ⟨C, h1, fun H2 s => h2 H2 (Same.keep s)⟩
  | bad => exact fun o => o
def noEv (n : Nat) : Ev := List.replicate n none
theorem noEv_no {n i : Nat} {d : D} : (noEv n)[i]? ≠ some (some d) := by
  unfold noEv
  rw [List.getElem?_replicate]
  split <;> simp
theorem StI.none {n : Nat} (dm : ∀ a ∈ fro, H a ≠ Option.none) (hl : σ.length = n) : StI K mg ww ow fro [] H σ (noEv n) where
  hd := ⟨by unfold noEv; rw [List.length_replicate]; exact hl, dm, fun i d _ z => absurd z noEv_no, fun i d _ z => absurd z noEv_no, fun i j a d e _ _ _ z => absurd z noEv_no⟩
  mine := fun i a d _ z => absurd z noEv_no
  off := fun a z => nomatch z
end
def runB (n : Nat) (mb : Ev → R Fl) : List D → R D := fun ds => match mb (ds.map some ++ List.replicate (n - ds.length) none) with
  | .ok (.rt d) => .ok d
  | .ok (.nx _) => .ok .non
  | .rse c => .rse c
  | _ => .bad
section
variable {P : Program} {w : World} {K : PySem.W.Frag} {mg : Str → Option Value} {ww : World} {base : Heap}
theorem fnD {x qual : Str} {st : Stmt} {f : Addr} {fd : FuncData} {N ps : List Str} {k : Nat} {ow : List Bool} {mb : Ev → R Fl} (F : Fun K x qual st f fd) (S : FnScope N ps (defScope st)) (hps : ((List.range ps.length).all fun i => !ow.getD i false) = true)
    (hb : ∀ (cdv : Value) (A : Around) (outer : List Env) (s : Shared) (H : Hp) (E : XK), Room k (A.deeper (PyProof.Rows.envOfC qual (defScope st) s.heap.objs.size f cdv)) → PSs (cxOf (CX1 P w) P w K mg base N qual (defScope st) f cdv A outer s H E) (defBody st) (tS K mg ww ow E mb)) :
    FnOk P w K mg base (CX1 P w) (k + 1) f fd ps (spD K mg ww ps.length (runB N.length mb)) := by
  refine F.okR S (fun vs H Q E h => h.1) fun cdv A outer s H vs Q E hr h => ?_
  obtain ⟨hl, os, ds, dm, hd, o⟩ := h
  refine ⟨_, hb cdv A outer s H E hr, os, [], ds.map some ++ List.replicate (N.length - ds.length) none, ⟨⟨?_, fun a ha => dm a ha, fun i d h1 h2 => ?_, fun i d h1 h2 => ?_, fun i j a d e n h1 h2 h3 => ?_⟩, fun i a d h1 h2 h3 => ?_, fun a z => nomatch z⟩, ?_⟩
  · unfold L2.start
    rw [List.length_append, List.length_append, List.length_map, List.length_map, List.length_replicate, List.length_replicate, hd.len]
  · have hi : i < ds.length := by
      by_cases hi : i < ds.length
      · exact hi
      · rw [List.getElem?_append_right (by simpa using hi), List.getElem?_replicate] at h2
        split at h2 <;> cases h2
    rw [List.getElem?_append_left (by simpa using hi), List.getElem?_map] at h2
    cases q : ds[i]? with
    | none =>
      rw [q] at h2
      cases h2
    | some d' =>
      rw [q] at h2
      cases h2
      obtain ⟨v, z1, z2⟩ := hd.atD q
      refine ⟨v, ?_, z2⟩
      unfold L2.start
      rw [List.getElem?_append_left (by rw [List.length_map, hd.len]; exact hi), List.getElem?_map, z1]
      rfl
  all_goals
    first
    | (have hi : i < ds.length := by
        by_cases hi : i < ds.length
        · exact hi
        · first
          | (rw [List.getElem?_append_right (by simpa using hi), List.getElem?_replicate] at h2
             split at h2 <;> cases h2)
          | (rw [List.getElem?_append_right (by simpa using hi), List.getElem?_replicate] at h3
             split at h3 <;> cases h3)
       have z := List.all_eq_true.mp hps i (List.mem_range.mpr (by rw [← hl, hd.len]; exact hi))
       rw [h1] at z
       cases z)
    | skip
  revert o
  unfold runB
  cases mb (ds.map some ++ List.replicate (N.length - ds.length) none) with
  | ok fl =>
    cases fl with
    | nx ρ' => exact fun o own' σ' H' e' s' => o .non H' (fun b o' z => e'.keep b o' (by simp) z) (show IsD K mg ww _ _ _ by rw [IsD])
    | rt d => exact fun o v H' k i => o v H' (fun b o' z => k b o' (by simp) z) i
    | bk ρ' => exact fun o => o.elim
    | ct ρ' => exact fun o => o.elim
  | rse c =>
    rintro ⟨C, h1, h2⟩
    exact ⟨C, h1, fun H2 k => h2 H2 fun b o' z => k b o' (by simp) z⟩
  | bad => exact fun o => o
end
theorem passE0 {P : Program} {w : World} {X : Cx} : Passes (CX1 P w) X E0 := fun pins σ H s e s' I h => by
  obtain ⟨_, _, _, _, _, _, _, _, _, _, _, _, hw⟩ := h
  exact hw.elim
end DL
namespace L2
open PySem PySem.Spec PyProof.Rows
section
variable {X : Cx}
theorem op_cat3 : OpR X (binaryOp .Add) (fun x y H Q => ∃ a b xs ys, x = .ref a ∧ y = .ref b ∧ SqT X.K H a xs ∧ SqT X.K H b ys ∧ xs.length + ys.length ≤ sizeLine ∧ (ys = [] → Q (.ref a) H) ∧ (xs = [] → Q (.ref b) H) ∧ ∀ p, H p = none → Q (.ref p) (upd H p (.tup (xs ++ ys)))) := by
  intro pins s σ H x y v u Q I rx ry h
  obtain ⟨a, b, xs, ys, rfl, rfl, ha, hb, hz, q1, q2, q3⟩ := h
  by_cases hx : xs = []
  · subst hx
    cases (show v = Value.ref a from rx)
    cases (show u = Value.ref b from ry)
    obtain ⟨its, r1, p1, _⟩ := I.tuple ha
    obtain ⟨its2, r2, p2, _⟩ := I.tuple hb
    cases r1
    exact cat_tup0 p1 p2 ⟨.ref b, H, I, rfl, q2 rfl⟩
  · exact op_catT pins s σ H (.ref a) (.ref b) v u Q I rx ry ⟨a, b, xs, ys, rfl, rfl, ha, hb, hx, hz, q1, fun _ => q3⟩
theorem op_rep3 : OpR X (binaryOp .Mult) (fun x y H Q => ∃ a k xs, x = .ref a ∧ y = .int k ∧ SqT X.K H a xs ∧ xs ≠ [] ∧ 2 ≤ k ∧ k < 2 ^ 62 ∧ xs.length * k.toNat ≤ sizeLine ∧ ∀ p, H p = none → Q (.ref p) (upd H p (.tup (List.replicate k.toNat xs).flatten))) := by
  intro pins s σ H x y v u Q I rx ry h
  obtain ⟨a, k, xs, rfl, rfl, ha, hne, h2, h3, hz, q⟩ := h
  cases (show v = Value.ref a from rx)
  obtain ⟨t, rfl⟩ := (show ∃ t, u = Value.int k t from ry)
  obtain ⟨its, r1, ⟨⟨c1, d1, y1, z1⟩, ho, hc, n, hd⟩, _⟩ := I.tuple ha
  simp only at hc hd
  subst hc hd
  have hl := r1.length
  have hne' : its.toArray.isEmpty = false := by
    cases its with
    | nil => exact absurd (List.length_eq_zero_iff.mp hl) hne
    | cons _ _ => rfl
  have hz' : its.toArray.size * k.toNat ≤ sizeLine := by rw [List.size_toArray, ← hl]; exact hz
  have e := foldl_rep its k.toNat []
  rw [List.nil_append] at e
  refine wpAny_binaryOp_repeat_ref (T := "tuple") (U := "int") (by decide) ⟨_, ho, rfl⟩ (fun s' => typeIs_int s' k t) noFill_tup_mul F.fills_int_mul F.slot_int_rmul repeat_tup F.slot_int_index.lookup
    (call_meets F.slot_int_rmul (typeIs_int s k t) F.entry_int_rmul (F.args_int_rmul_2 _ _) (rmul_tup k t a d1 its.toArray n z1)
      ⟨ho, rfl, ⟨_, ho, rfl⟩, call_meets F.slot_tuple_mul ⟨_, ho, rfl⟩ F.entry_tuple_mul (F.args_tuple_mul_2 _ _) (mul_tup a d1 its.toArray n z1 k t h2 h3 hne' hz') ⟨ho, ?_⟩⟩)
  have e' : List.foldl (fun x1 x2 => x1 ++ x2) #[] (List.replicate k.toNat its.toArray) = (List.replicate k.toNat its).flatten.toArray := e
  rw [e']
  refine ⟨.ref s.heap.objs.size, _, I.laid (t' := s.toks) (fun b o z => Heap.get?_push_of_some _ z) (Nat.le_refl _) ?_, rfl, q _ I.fresh⟩
  exact ⟨by rw [len_rep, Nat.mul_comm]; exact hz, _, r1.rep k.toNat, IsTup.new _ _⟩
theorem sl_tup3 : SlR X (fun x lo hi H Q => ∃ a xs, x = .ref a ∧ SqT X.K H a xs ∧ (cutV xs lo hi = xs → Q (.ref a) H) ∧ ∀ p, H p = none → Q (.ref p) (upd H p (.tup (cutV xs lo hi)))) := by
  intro pins s σ H x v vl vu lo hi sl Q I rx hs pl pu h
  obtain ⟨a, xs, rfl, ha, q1, q2⟩ := h
  by_cases hw : HT.sIx xs.length 0 lo = 0 ∧ HT.sIx xs.length xs.length hi = xs.length
  · cases (show v = Value.ref a from rx)
    obtain ⟨its, r1, p1, _⟩ := I.tuple ha
    have hl := r1.length
    refine ⟨"tuple", _, PyProof.Rows.slot_tuple_getitem.lookup, p1.typeIs, getItem_tuple_all p1 hs pl pu (by rw [List.size_toArray, ← hl]; exact hw.1) (by rw [List.size_toArray, ← hl]; exact hw.2) ⟨.ref a, H, I, rfl, q1 ?_⟩⟩
    unfold cutV
    rw [hw.1, hw.2, List.drop_zero, Nat.sub_zero, List.take_length]
  · exact sl_tup pins s σ H (.ref a) v vl vu lo hi sl Q I rx hs pl pu ⟨a, xs, rfl, ha, hw, q2⟩
theorem call_isinst3 : CallR X (.builtin "isinstance") (fun xs H Q => ∃ x n t b, xs = [x, .ty n] ∧ (TyOf X.K H x t ∨ ∃ a ys, x = .ref a ∧ SqT X.K H a ys ∧ t = .type "tuple") ∧ PySem.W.kitOne X.K t (.type n) = some b ∧ Q (.bl b) H) := by
  intro pins s σ H xs us Q I r h
  obtain ⟨x, n, t, b, rfl, ty, e, q⟩ := h
  obtain ⟨u, w', rfl, rx, ry⟩ := vals2 r
  cases (show w' = Value.type n from ry)
  rcases ty with ty | ⟨a, ys, rfl, hq, rfl⟩
  · exact isinst_ok I rx ty e fun tk => ⟨.bl b, H, I.tok tk, rfl, q⟩
  · cases (show u = Value.ref a from rx)
    obtain ⟨its, _, ⟨o, h1, h2, _⟩, _⟩ := I.tuple hq
    exact PySem.W.kia_one PySem.W.kitx_tuple I.kIn ⟨o, h1, h2⟩ e (fun z => nomatch z) fun tk => ⟨.bl b, H, I.tok tk, rfl, q⟩
end
end L2
namespace DL
open PySem PySem.Spec L2
section
variable {X : Cx} {K : PySem.W.Frag} {mg : Str → Option Value} {ww : World} {E : XK} {os : List Addr} {H : Hp}
theorem isInt {H : Hp} (i : Int) : IsD K mg ww H (.int i) (.int i) := by rw [IsD]
def intD (f : Int → Int → R D) : D → D → R D
  | .int i, .int j => f i j
  | _, _ => .bad
theorem o_bool0 {g : Int → Int → Bool} : Op2 K mg ww .d (rI0 fun i j => .bl (g i j)) (intD fun i j => .ok (.bl (g i j))) := by
  intro E os H x y d e Q dm hx hy o
  unfold intD at o
  split at o
  · exact ⟨_, _, hx.int, hy.int, o _ H (Same.refl H) rBl⟩
  · exact o.elim
theorem o_intC {C : Int → Int → Prop} {B : Int → Int → Bool} {g : Int → Int → Int} (h : ∀ i j, B i j = true → C i j) : Op2 K mg ww .d (rI C fun i j => .int (g i j)) (intD fun i j => if B i j = true then .ok (.int (g i j)) else .bad) := by
  intro E os H x y d e Q dm hx hy o
  unfold intD at o
  split at o
  · rename_i i j
    dsimp only at o
    split at o
    · rename_i hb
      exact ⟨_, _, hx.int, hy.int, h i j hb, o _ H (Same.refl H) rInt⟩
    · exact o.elim
  · exact o.elim
def bMul (i j : Int) : Bool := decide ((-18446744073709551616 < i ∧ i < 18446744073709551616) ∨ (-18446744073709551616 < j ∧ j < 18446744073709551616))
def bDiv (_ j : Int) : Bool := decide (0 < j ∧ j < 1073741824)
def bMod (_ j : Int) : Bool := decide (0 < j)
def fdivD : D → D → R D := intD fun i j => if bDiv i j = true then .ok (.int (i / j)) else .bad
def modD : D → D → R D := intD fun i j => if bMod i j = true then .ok (.int (i % j)) else .bad
theorem o_fdiv : Op2 K mg ww .d (rI CDiv fun i j => .int (i / j)) fdivD := o_intC fun i j h => of_decide_eq_true (p := 0 < j ∧ j < 1073741824) h
theorem o_mod : Op2 K mg ww .d (rI (fun _ j => 0 < j) fun i j => .int (i % j)) modD := o_intC fun i j h => of_decide_eq_true (p := 0 < j) h
def ltD : D → D → R D := intD fun i j => .ok (.bl (decide (i < j)))
def leD : D → D → R D := intD fun i j => .ok (.bl (decide (i ≤ j)))
def gtD : D → D → R D := intD fun i j => .ok (.bl (decide (i > j)))
def geD : D → D → R D := intD fun i j => .ok (.bl (decide (i ≥ j)))
theorem o_lt : Op2 K mg ww .d (rI0 fun i j => .bl (decide (i < j))) ltD := o_bool0
theorem o_le : Op2 K mg ww .d (rI0 fun i j => .bl (decide (i ≤ j))) leD := o_bool0
theorem o_gt : Op2 K mg ww .d (rI0 fun i j => .bl (decide (i > j))) gtD := o_bool0
theorem o_ge : Op2 K mg ww .d (rI0 fun i j => .bl (decide (i ≥ j))) geD := o_bool0
def addD : D → D → R D
  | .int i, .int j => .ok (.int (i + j))
  | .tup a, .tup b => if a.length + b.length ≤ 100000 then .ok (.tup (a ++ b)) else .bad
  | .lst a, .lst b => if a.length + b.length ≤ 100000 then .ok (.lst (a ++ b)) else .bad
  | .str a, .str b => if a.length + b.length ≤ 100000 then .ok (.str (a ++ b)) else .bad
  | _, _ => .bad
def rAddAll (K : PySem.W.Frag) : R2 := fun x y H Q => (rI0 (fun i j => .int (i + j)) x y H Q ∨ rCat x y H Q) ∨
  ((∃ a b xs ys, x = .ref a ∧ y = .ref b ∧ SqT K H a xs ∧ SqT K H b ys ∧ xs.length + ys.length ≤ sizeLine ∧ (ys = [] → Q (.ref a) H) ∧ (xs = [] → Q (.ref b) H) ∧ ∀ p, H p = none → Q (.ref p) (upd H p (.tup (xs ++ ys)))) ∨
    ∃ i j, x = .str i ∧ y = .str j ∧ i.length + j.length ≤ sizeLine ∧ Q (.str (i ++ j)) H)
theorem op_addAll (h : X.K = K := by rfl) : OpR X (binaryOp .Add) (rAddAll K) := h ▸ (op_add.or op_cat).or (op_cat3.or op_add_str)
theorem big5 {n : Nat} (h : n ≤ 100000) : n ≤ sizeLine := Nat.le_trans h (by rw [sizeLine_eq]; decide)
theorem new_d {p : Addr} {ds : List D} {vs : List V} (dm : ∀ a ∈ os, H a ≠ none) (hp : H p = none) (h : IsDs K mg ww (hide os H) ds vs) : IsD K mg ww (hide os (upd H p (.lst vs))) (.lst ds) (.ref p) := Rep.fd (H0 := H) dm (new_f hp h)
theorem new_t {p : Addr} {ds : List D} {vs : List V} (dm : ∀ a ∈ os, H a ≠ none) (hp : H p = none) (h : IsDs K mg ww (hide os H) ds vs) : IsD K mg ww (hide os (upd H p (.tup vs))) (.tup ds) (.ref p) := by
  rw [IsD]
  exact ⟨p, vs, rfl, SqT.of (hide_some.mpr ⟨fun z => dm p z hp, upd_same⟩), IsDs.same (hide_mono (Wv.same_new hp)) _ _ h⟩
theorem o_add : Op2 K mg ww .d (rAddAll K) addD := by
  intro E os H x y d e Q dm hx hy o
  unfold addD at o
  split at o
  · exact .inl (.inl ⟨_, _, hx.int, hy.int, o _ H (Same.refl H) rInt⟩)
  · rename_i a b
    split at o
    · rename_i hl
      obtain ⟨p, xs, rfl, h1, c1, h2⟩ := hx.tup
      obtain ⟨q, ys, rfl, h3, c3, h4⟩ := hy.tup
      refine .inr (.inl ⟨p, q, xs, ys, rfl, rfl, h1, h3, by rw [h2.len, h4.len]; exact big5 hl, fun hy => ?_, fun hx => ?_, fun r hr => o _ _ (Wv.same_new hr) (new_t dm hr (h2.append h4))⟩)
      · refine o _ H (Same.refl H) (show IsD K mg ww _ _ _ from ?_)
        subst hy
        have eb : b = [] := List.length_eq_zero_iff.mp h4.len.symm
        subst eb
        rw [IsD, List.append_nil]
        exact ⟨p, xs, rfl, c1, h2⟩
      · refine o _ H (Same.refl H) (show IsD K mg ww _ _ _ from ?_)
        subst hx
        have eb : a = [] := List.length_eq_zero_iff.mp h2.len.symm
        subst eb
        rw [IsD, List.nil_append]
        exact ⟨q, ys, rfl, c3, h4⟩
    · exact o.elim
  · rename_i a b
    split at o
    · rename_i hl
      obtain ⟨p, xs, rfl, h1, h2⟩ := hx.lst
      obtain ⟨q, ys, rfl, h3, h4⟩ := hy.lst
      exact .inl (.inr ⟨p, q, xs, ys, rfl, rfl, h1, h3, by rw [h2.len, h4.len]; exact big5 hl, fun r hr => o _ _ (Wv.same_new hr) (new_d dm hr (h2.append h4))⟩)
    · exact o.elim
  · rename_i a b
    split at o
    · rename_i hl
      exact .inr (.inr ⟨_, _, hx.str, hy.str, big5 hl, o _ H (Same.refl H) rStr⟩)
    · exact o.elim
  · exact o.elim
def repL {α : Type} (k : Int) (l : List α) : List α := (List.replicate k.toNat l).flatten
theorem IsDs.rep {H : Hp} {ds : List D} {xs : List V} (h : IsDs K mg ww H ds xs) : ∀ n : Nat, IsDs K mg ww H (List.replicate n ds).flatten (List.replicate n xs).flatten
  | 0 => IsDs.nil
  | n + 1 => by
    rw [List.replicate_succ, List.replicate_succ, List.flatten_cons, List.flatten_cons]
    exact h.append (IsDs.rep h n)
def mulD : D → D → R D
  | .int i, .int j => if bMul i j = true then .ok (.int (i * j)) else .bad
  | .tup a, .int k => if a ≠ [] ∧ 2 ≤ k ∧ k ≤ 1000 ∧ a.length ≤ 1000 then .ok (.tup (repL k a)) else .bad
  | .lst a, .int k => if 0 ≤ k ∧ k ≤ 1000 ∧ a.length ≤ 1000 then .ok (.lst (repL k a)) else .bad
  | _, _ => .bad
theorem cmul_of {i j : Int} (h : bMul i j = true) : CMul i j := by
  have z := of_decide_eq_true (p := (-18446744073709551616 < i ∧ i < 18446744073709551616) ∨ (-18446744073709551616 < j ∧ j < 18446744073709551616)) h
  unfold CMul
  omega
def rMulAll (K : PySem.W.Frag) : R2 := fun x y H Q => (rI CMul (fun i j => .int (i * j)) x y H Q ∨ rRep x y H Q) ∨
  (∃ a k xs, x = .ref a ∧ y = .int k ∧ SqT K H a xs ∧ xs ≠ [] ∧ 2 ≤ k ∧ k < 2 ^ 62 ∧ xs.length * k.toNat ≤ sizeLine ∧ ∀ p, H p = none → Q (.ref p) (upd H p (.tup (List.replicate k.toNat xs).flatten)))
theorem op_mulAll (h : X.K = K := by rfl) : OpR X (binaryOp .Mult) (rMulAll K) := h ▸ (op_mul.or op_rep).or op_rep3
theorem mul_big {n : Nat} {k : Int} (h : n ≤ 1000) (hk : k ≤ 1000) : n * k.toNat ≤ sizeLine := by
  have h2 : k.toNat ≤ 1000 := by omega
  have := Nat.mul_le_mul h h2
  exact Nat.le_trans this (by rw [sizeLine_eq]; decide)
theorem o_mul : Op2 K mg ww .d (rMulAll K) mulD := by
  intro E os H x y d e Q dm hx hy o
  unfold mulD at o
  split at o
  · split at o
    · rename_i hb
      exact .inl (.inl ⟨_, _, hx.int, hy.int, cmul_of hb, o _ H (Same.refl H) rInt⟩)
    · exact o.elim
  · rename_i a k
    split at o
    · rename_i hl
      obtain ⟨p, xs, rfl, h1, c1, h2⟩ := hx.tup
      refine .inr ⟨p, k, xs, rfl, hy.int, h1, fun z => hl.1 ?_, hl.2.1, by omega, mul_big (by rw [h2.len]; exact hl.2.2.2) hl.2.2.1, fun r hr => o _ _ (Wv.same_new hr) (new_t dm hr (h2.rep _))⟩
      rw [z] at h2
      exact List.length_eq_zero_iff.mp h2.len.symm
    · exact o.elim
  · rename_i a k
    split at o
    · rename_i hl
      obtain ⟨p, xs, rfl, h1, h2⟩ := hx.lst
      exact .inl (.inr ⟨p, k, xs, rfl, hy.int, h1, by omega, by omega, mul_big (by rw [h2.len]; exact hl.2.2) hl.2.1, fun r hr => o _ _ (Wv.same_new hr) (new_d dm hr (h2.rep _))⟩)
    · exact o.elim
  · exact o.elim
def ixD : D → D → R D
  | .lst l, .int i => match atI l i with
    | some d => .ok d
    | none => .bad
  | .tup l, .int i => match atI l i with
    | some d => .ok d
    | none => .bad
  | .scr ns, .int i => match atI ns i with
    | some n => .ok (.int n)
    | none => .bad
  | .str z, .int i => if z.length ≤ 100000 then match atI z.cps.toList i with
    | some c => .ok (.str ⟨#[c]⟩)
    | none => .bad else .bad
  | _, _ => .bad
theorem atI_map {α β : Type} (f : α → β) (l : List α) (i : Int) : atI (l.map f) i = (atI l i).map f := by
  unfold atI
  rw [List.length_map]
  cases ixN l.length i with
  | none => rfl
  | some j => exact List.getElem?_map ..
theorem IsDs.atI {H : Hp} {ds : List D} {xs : List V} {i : Int} {d : D} (h : IsDs K mg ww H ds xs) (e : L2.atI ds i = some d) : ∃ x, L2.atI xs i = some x ∧ IsD K mg ww H d x := by
  unfold L2.atI at e ⊢
  rw [h.len]
  cases q : ixN ds.length i with
  | none =>
    rw [q] at e
    cases e
  | some j =>
    rw [q] at e
    exact h.atD e
theorem o_ix : Op2 K mg ww .d (rIx K) ixD := by
  intro E os H x y d e Q dm hx hy o
  unfold ixD at o
  split at o
  · rename_i l i
    split at o
    · rename_i d' hd
      obtain ⟨p, xs, rfl, h1, h2⟩ := hx.lst
      obtain ⟨v, z1, z2⟩ := h2.atI hd
      exact .inl ⟨p, xs, i, v, rfl, hy.int, SqL.of h1, z1, o _ H (Same.refl H) z2⟩
    · exact o.elim
  · rename_i l i
    split at o
    · rename_i d' hd
      obtain ⟨p, xs, rfl, h1, _, h2⟩ := hx.tup
      obtain ⟨v, z1, z2⟩ := h2.atI hd
      exact .inr (.inl ⟨p, xs, i, v, rfl, hy.int, h1, z1, o _ H (Same.refl H) z2⟩)
    · exact o.elim
  · rename_i ns i
    split at o
    · rename_i n hd
      have hx' := hx.full
      rw [IsD] at hx'
      obtain ⟨p, rfl, h1⟩ := hx'
      exact .inl ⟨p, _, i, .int n, rfl, hy.int, h1, by rw [atI_map, hd]; rfl, o _ H (Same.refl H) rInt⟩
    · exact o.elim
  · rename_i z i
    split at o
    · rename_i hl
      split at o
      · rename_i c hc
        exact .inr (.inr ⟨z, i, c, hx.str, hy.int, big5 hl, hc, o _ H (Same.refl H) rStr⟩)
      · exact o.elim
    · exact o.elim
  · exact o.elim
theorem ixAll (h : X.K = K := by rfl) : IxR X (rIx K) := h ▸ ix_seq
def cutL {α : Type} (xs : List α) (lo hi : Option Int) : List α := (xs.drop (HT.sIx xs.length 0 lo)).take (HT.sIx xs.length xs.length hi - HT.sIx xs.length 0 lo)
theorem IsDs.cut {H : Hp} {ds : List D} {xs : List V} (h : IsDs K mg ww H ds xs) (lo hi : Option Int) : IsDs K mg ww H (cutL ds lo hi) (cutV xs lo hi) := by
  unfold cutL cutV
  rw [h.len]
  exact (h.drop _).take _
def slD (d : D) (lo hi : Option Int) : R D := match d with
  | .lst l => .ok (.lst (cutL l lo hi))
  | .tup l => .ok (.tup (cutL l lo hi))
  | _ => .bad
end
section
variable {X : Cx} {K : PySem.W.Frag} {mg : Str → Option Value} {ww : World} {E : XK} {ow : List Bool} {md : Md} {a e : Expr} {m ma : Ev → R D} {pos p2 : Pos} {lo hi : Option Expr}
def tO (K : PySem.W.Frag) (mg : Str → Option Value) (ww : World) (E : XK) (ow : List Bool) (m : Ev → R (Option Int)) : TO := fun σ H Q => ∃ os ρ, Hd K mg ww ow os H σ ρ ∧ (match m ρ with
  | .ok i => ∀ H', Same H H' → Q i H'
  | .rse c => ∃ C, mg c = some (.ref C) ∧ ∀ H', Same H H' → E (.ref C) none H'
  | .bad => False)
def mNoP : Ev → R (Option Int) := fun _ => .ok none
def asInt : D → R (Option Int)
  | .int i => .ok (some i)
  | _ => .bad
def mPart (m : Ev → R D) : Ev → R (Option Int) := fun ρ => (m ρ).bind asInt
theorem PO.mono' {x : Option Expr} {t t' : TO} (h : PO X x t) (i : ∀ σ H Q, t' σ H Q → t σ H Q) : PO X x t' := fun pins s σ H Q I q => h pins s σ H Q I (i σ H Q q)
theorem p_none : PO X none (tO K mg ww E ow mNoP) := PO.mono' po_none fun σ H Q ⟨os, ρ, hd, o⟩ => o H (Same.refl H)
theorem p_some (h : PE X e (tE K mg ww .d E ow m)) : PO X (some e) (tO K mg ww E ow (mPart m)) := PO.mono' (po_some h) fun σ H Q ⟨os, ρ, hd, o⟩ => by
  refine ⟨os, ρ, hd, ?_⟩
  unfold mPart at o
  revert o
  cases m ρ with
  | ok d =>
    rw [R.ok_bind]
    intro o v H1 s1 q1
    cases d with
    | int i => exact ⟨i, q1.db.int, o H1 s1⟩
    | _ => exact o.elim
  | rse c => exact fun o => o
  | bad => exact fun o => o
def mSl (m : Ev → R D) (ml mh : Ev → R (Option Int)) : Ev → R D := fun ρ => (m ρ).bind fun d => (ml ρ).bind fun l => (mh ρ).bind fun h => slD d l h
def rSlAll (K : PySem.W.Frag) : V → Option Int → Option Int → Hp → VK → Prop := fun x lo hi H Q => rSlL K x lo hi H Q ∨ ∃ a xs, x = .ref a ∧ SqT K H a xs ∧ (cutV xs lo hi = xs → Q (.ref a) H) ∧ ∀ p, H p = none → Q (.ref p) (upd H p (.tup (cutV xs lo hi)))
theorem slAll (h : X.K = K := by rfl) : SlR X (rSlAll K) := h ▸ sl_list.or sl_tup3
variable {ml mh : Ev → R (Option Int)}
theorem o_sl {os : List Addr} {H : Hp} {x : V} {d : D} {l h : Option Int} {Q : VK} (dm : ∀ a ∈ os, H a ≠ none) (hx : Rep K mg ww .b H os H d x) (o : Out K mg ww .d E os H (slD d l h) Q) : rSlAll K x l h H Q := by
  unfold slD at o
  split at o
  · obtain ⟨p, xs, rfl, h1, h2⟩ := hx.lst
    exact .inl ⟨p, xs, rfl, SqL.of h1, fun r hr => o _ _ (Wv.same_new hr) (new_d dm hr (h2.cut l h))⟩
  · rename_i ds
    obtain ⟨p, xs, rfl, h1, c1, h2⟩ := hx.tup
    refine .inr ⟨p, xs, rfl, h1, fun z => ?_, fun r hr => o _ _ (Wv.same_new hr) (new_t dm hr (h2.cut l h))⟩
    refine o _ H (Same.refl H) (show IsD K mg ww _ _ _ from ?_)
    have z2 := h2.cut l h
    rw [z] at z2
    rw [IsD]
    exact ⟨p, xs, rfl, c1, z2⟩
  · exact o.elim
theorem e_sl (he : PE X e (tE K mg ww .b E ow m)) (hl : PO X lo (tO K mg ww E ow ml)) (hu : PO X hi (tO K mg ww E ow mh)) (hK : X.K = K := by rfl) : PE X (.Subscript e (.Slice lo hi none p2) pos) (tE K mg ww .d E ow (mSl m ml mh)) :=
  (pe_slice (slAll hK) he hl hu).mono fun σ H Q ⟨os, ρ, hd, o⟩ => by
    refine ⟨os, ρ, hd, ?_⟩
    have z := out_bind (md' := .b) o
    revert z
    cases m ρ with
    | ok d =>
      intro z v H1 s1 q1
      obtain ⟨d', e', _, _, z⟩ := z v H1 s1 q1
      cases e'
      refine ⟨os, ρ, hd.same s1, ?_⟩
      revert z
      cases ml ρ with
      | ok l =>
        intro z H2 s2
        refine ⟨os, ρ, hd.same (s1.trans s2), ?_⟩
        rw [R.ok_bind] at z
        revert z
        cases mh ρ with
        | ok h => exact fun z H3 s3 => o_sl (hd.same ((s1.trans s2).trans s3)).dom (q1.same (s2.trans s3)) (Out.same z (s2.trans s3))
        | rse c =>
          rintro ⟨C, h1, h2⟩
          exact ⟨C, h1, fun H3 s => h2 H3 (s2.trans s)⟩
        | bad => exact fun z => z
      | rse c => exact fun z => z
      | bad => exact fun z => z
    | rse c => exact fun z => z
    | bad => exact fun z => z
def lenD : List D → R D
  | [.lst l] => .ok (.int l.length)
  | [.tup l] => .ok (.int l.length)
  | [.scr l] => .ok (.int l.length)
  | [.str z] => if z.length ≤ 100000 then .ok (.int z.length) else .bad
  | _ => .bad
def rLenAll (K : PySem.W.Frag) : List V → Hp → VK → Prop := fun xs H Q => (∃ p ys, xs = [.ref p] ∧ (SqL K H p ys ∨ SqT K H p ys) ∧ Q (.int ys.length) H) ∨ ∃ z, xs = [.str z] ∧ z.length ≤ sizeLine ∧ Q (.int z.length) H
theorem callLen (h : X.K = K := by rfl) : CallR X (.builtin "len") (rLenAll K) := h ▸ call_len_seq.or call_len_str
theorem pair1 {os : List Addr} {H : Hp} {d : D} {xs : List V} (h : Paired (Rep K mg ww .b H os H) [d] xs) : ∃ x, xs = [x] ∧ Rep K mg ww .b H os H d x := by
  cases h with
  | cons r t =>
    cases t
    exact ⟨_, rfl, r⟩
theorem o_len : OpN K mg ww .d (rLenAll K) lenD := by
  intro E os H xs ds Q dm hp o
  unfold lenD at o
  split at o
  · obtain ⟨x, rfl, hx⟩ := pair1 hp
    obtain ⟨p, ys, rfl, h1, h2⟩ := hx.lst
    exact .inl ⟨p, ys, rfl, .inl (SqL.of h1), by rw [h2.len]; exact o _ H (Same.refl H) rInt⟩
  · obtain ⟨x, rfl, hx⟩ := pair1 hp
    obtain ⟨p, ys, rfl, h1, _, h2⟩ := hx.tup
    exact .inl ⟨p, ys, rfl, .inr h1, by rw [h2.len]; exact o _ H (Same.refl H) rInt⟩
  · obtain ⟨x, rfl, hx⟩ := pair1 hp
    have hx' := hx.full
    rw [IsD] at hx'
    obtain ⟨p, rfl, h1⟩ := hx'
    exact .inl ⟨p, _, rfl, .inl h1, by rw [List.length_map]; exact o _ H (Same.refl H) rInt⟩
  · split at o
    · rename_i hl
      obtain ⟨x, rfl, hx⟩ := pair1 hp
      exact .inr ⟨_, by rw [hx.str], big5 hl, o _ H (Same.refl H) rInt⟩
    · exact o.elim
  · exact o.elim
def tupleD : List D → R D
  | [.lst l] => .ok (.tup l)
  | [.tup l] => .ok (.tup l)
  | _ => .bad
def rTupleAll (K : PySem.W.Frag) : List V → Hp → VK → Prop := fun xs H Q => ∃ p ys, xs = [.ref p] ∧ ((SqL K H p ys ∧ ∀ l, H l = none → Q (.ref l) (upd H l (.tup ys))) ∨ (SqT K H p ys ∧ Q (.ref p) H))
theorem callTuple (h : X.K = K := by rfl) : CallR X (.type "tuple") (rTupleAll K) := h ▸ call_tuple_of
theorem o_tuple : OpN K mg ww .d (rTupleAll K) tupleD := by
  intro E os H xs ds Q dm hp o
  unfold tupleD at o
  split at o
  · obtain ⟨x, rfl, hx⟩ := pair1 hp
    obtain ⟨p, ys, rfl, h1, h2⟩ := hx.lst
    exact ⟨p, ys, rfl, .inl ⟨SqL.of h1, fun l hl => o _ _ (Wv.same_new hl) (new_t dm hl h2)⟩⟩
  · obtain ⟨x, rfl, hx⟩ := pair1 hp
    obtain ⟨p, ys, rfl, h1, c1, h2⟩ := hx.tup
    refine ⟨p, ys, rfl, .inr ⟨h1, o _ H (Same.refl H) (show IsD K mg ww _ _ _ from ?_)⟩⟩
    rw [IsD]
    exact ⟨p, ys, rfl, c1, h2⟩
  · exact o.elim
def intOfD : List D → R D
  | [.int i] => .ok (.int i)
  | [.bl b] => .ok (.int (if b = true then 1 else 0))
  | _ => .bad
def rIntOf : List V → Hp → VK → Prop := fun xs H Q => (∃ i, xs = [.int i] ∧ Q (.int i) H) ∨ ∃ k, xs = [.bl k] ∧ Q (.int (if k then 1 else 0)) H
theorem callInt : CallR X (.type "int") rIntOf := call_int1
theorem o_intOf : OpN K mg ww .d rIntOf intOfD := by
  intro E os H xs ds Q dm hp o
  unfold intOfD at o
  split at o
  · obtain ⟨x, rfl, hx⟩ := pair1 hp
    exact .inl ⟨_, by rw [hx.int], o _ H (Same.refl H) rInt⟩
  · obtain ⟨x, rfl, hx⟩ := pair1 hp
    exact .inr ⟨_, by rw [hx.bl], o _ H (Same.refl H) rInt⟩
  · exact o.elim
def blsD : List D → Option (List Bool)
  | [] => some []
  | .bl b :: l => (blsD l).map (b :: ·)
  | _ => none
theorem bls_is {H : Hp} : ∀ {ds : List D} {xs : List V} {bs : List Bool}, blsD ds = some bs → IsDs K mg ww H ds xs → xs = bs.map V.bl
  | [], xs, bs, e, h => by
    cases e
    exact h.nil'
  | .bl b :: l, xs, bs, e, h => by
    obtain ⟨x, r, rfl, h1, h2⟩ := h.uncons
    unfold blsD at e
    cases q : blsD l with
    | none =>
      rw [q] at e
      cases e
    | some bs' =>
      rw [q] at e
      cases e
      rw [IsD] at h1
      rw [h1, bls_is q h2]
      rfl
def allD : List D → R D
  | [.lst l] => match blsD l with
    | some bs => .ok (.bl (bs.all id))
    | none => .bad
  | _ => .bad
def rAll (K : PySem.W.Frag) : List V → Hp → VK → Prop := fun xs H Q => ∃ (p : Addr) (bs : List Bool), xs = [.ref p] ∧ SqL K H p (bs.map V.bl) ∧ Q (.bl (bs.all id)) H
theorem callAll (hc : X.calm = true := by rfl) (h : X.K = K := by rfl) : CallR X (.builtin "all") (rAll K) := h ▸ call_all_list hc
theorem o_all : OpN K mg ww .d (rAll K) allD := by
  intro E os H xs ds Q dm hp o
  unfold allD at o
  split at o
  · split at o
    · rename_i bs hb
      obtain ⟨x, rfl, hx⟩ := pair1 hp
      obtain ⟨p, ys, rfl, h1, h2⟩ := hx.lst
      exact ⟨p, bs, rfl, by rw [← bls_is hb h2]; exact SqL.of h1, o _ H (Same.refl H) rBl⟩
    · exact o.elim
  · exact o.elim
def tyS : D → String
  | .non => "NoneType"
  | .bl _ => "bool"
  | .int _ => "int"
  | .str _ => "str"
  | .tup _ => "tuple"
  | .lst _ => "list"
  | _ => "?"
theorem Rep.ty {os : List Addr} {H0 H : Hp} {d : D} {v : V} (h : Rep K mg ww .b H0 os H d v) (hd : tyS d ≠ "?") : TyOf K H v (.type (tyS d)) ∨ ∃ a ys, v = .ref a ∧ SqT K H a ys ∧ (.type (tyS d) : Value) = .type "tuple" := by
  cases d with
  | non => rw [h.non]; exact .inl TyOf.non
  | bl b => rw [h.bl]; exact .inl (TyOf.bl b)
  | int i => rw [h.int]; exact .inl (TyOf.int i)
  | str x => rw [h.str]; exact .inl (TyOf.str x)
  | tup l =>
    obtain ⟨p, xs, rfl, h1, _⟩ := h.tup
    exact .inr ⟨p, xs, rfl, h1, rfl⟩
  | lst l =>
    obtain ⟨p, xs, rfl, h1, _⟩ := h.lst
    exact .inl (TyOf.lst h1)
  | dct ks vs => exact absurd rfl hd
  | exc c => exact absurd rfl hd
  | scr ns => exact absurd rfl hd
def KitOk (K : PySem.W.Frag) (T : String) (f : D → R D) : Prop := ∀ d, f d = .bad ∨ ∃ b, f d = .ok (.bl b) ∧ tyS d ≠ "?" ∧ PySem.W.kitOne K (.type (tyS d)) (.type T) = some b
def isIntD : D → R D
  | .int _ => .ok (.bl true)
  | .bl _ => .ok (.bl true)
  | .non => .ok (.bl false)
  | .str _ => .ok (.bl false)
  | .tup _ => .ok (.bl false)
  | .lst _ => .ok (.bl false)
  | _ => .bad
def isBoolD : D → R D
  | .bl _ => .ok (.bl true)
  | .int _ => .ok (.bl false)
  | .non => .ok (.bl false)
  | .str _ => .ok (.bl false)
  | .tup _ => .ok (.bl false)
  | .lst _ => .ok (.bl false)
  | _ => .bad
def isTupD : D → R D
  | .tup _ => .ok (.bl true)
  | .bl _ => .ok (.bl false)
  | .int _ => .ok (.bl false)
  | .non => .ok (.bl false)
  | .str _ => .ok (.bl false)
  | .lst _ => .ok (.bl false)
  | _ => .bad
theorem kit_int : KitOk K "int" isIntD := fun d => by cases d <;> first | exact .inl rfl | exact .inr ⟨_, rfl, (by simp [tyS]), rfl⟩
theorem kit_bool : KitOk K "bool" isBoolD := fun d => by cases d <;> first | exact .inl rfl | exact .inr ⟨_, rfl, (by simp [tyS]), rfl⟩
theorem kit_tup : KitOk K "tuple" isTupD := fun d => by cases d <;> first | exact .inl rfl | exact .inr ⟨_, rfl, (by simp [tyS]), rfl⟩
def mInst (f : D → R D) (m : Ev → R D) : Ev → R D := fun ρ => (m ρ).bind f
theorem e_inst {T : String} {y : Str} {f : D → R D} {p p' : Pos} (hk : KitOk K T f) (hm : X.mg "isinstance" = none) (hmT : X.mg y = none) (hv : bootBuiltins y = some (.type T)) (ha : PE X a (tE K mg ww .b E ow ma)) (hK : X.K = K := by rfl) (hg : Gl X "isinstance" := by rfl) (hgT : Gl X y := by rfl)
    (hn : y ≠ "__name__" := by decide) (hdb : (y == ("__debug__" : Str)) = false := by decide) (hs1 : starEach [a, .Name y p'] X.env = (false, eval a X.env) :: starEach [.Name y p'] X.env := by rfl) (hs2 : starEach [.Name y p'] X.env = (false, eval (.Name y p') X.env) :: starEach [] X.env := by rfl)
    (hpl : (backTo pos (starEach [.Name y p'] X.env)).any (·.1) = false := by rfl) : PE X (.Call (.Name "isinstance" p) [a, .Name y p'] [] pos) (tE K mg ww .d E ow (mInst f ma)) :=
  (pe_callB call_isinst3 hg hm Wv.bt_isinstance (pa_cons ha (pa_cons (pe_bltn hgT hmT hv (v := .ty T) rfl hn hdb) pa_nil hs2) hs1) (by decide) (by decide) hs1 hpl).mono fun σ H Q ⟨os, ρ, hd, o⟩ => by
    subst hK
    refine ⟨os, ρ, hd, ?_⟩
    have z := out_bind (md' := .b) o
    revert z
    cases ma ρ with
    | ok d =>
      intro z v H1 s1 q1
      obtain ⟨d', e', _, _, z⟩ := z v H1 s1 q1
      cases e'
      rcases hk d with hb | ⟨b, hb, ht, hkk⟩
      · rw [hb] at z
        exact z.elim
      · rw [hb] at z
        exact ⟨v, T, _, b, rfl, q1.ty ht, hkk, z _ H1 (Same.refl H1) rBl⟩
    | rse c => exact fun z => z
    | bad => exact fun z => z
end
mutual
def plain : D → Bool
  | .tup l => plains l
  | .lst l => plains l
  | .dct _ _ => false
  | .exc _ => false
  | .scr _ => false
  | _ => true
def plains : List D → Bool
  | [] => true
  | d :: l => plain d && plains l
end
section
variable {X : Cx} {K : PySem.W.Frag} {mg : Str → Option Value} {ww : World} {H : Hp}
mutual
theorem IsD.toP : ∀ (d : D) (v : V), plain d = true → IsD K mg ww H d v → L2.IsD K H (DL.toP d) v
  | .non, v, _, h => by rw [DL.toP, L2.IsD]; rw [IsD] at h; exact h
  | .bl b, v, _, h => by rw [DL.toP, L2.IsD]; rw [IsD] at h; exact h
  | .int i, v, _, h => by rw [DL.toP, L2.IsD]; rw [IsD] at h; exact h
  | .str x, v, _, h => by rw [DL.toP, L2.IsD]; rw [IsD] at h; exact h
  | .tup l, v, p, h => by
    rw [DL.toP, L2.IsD]
    rw [IsD] at h
    rw [plain] at p
    obtain ⟨a, xs, h1, h2, h3⟩ := h
    exact ⟨a, xs, h1, h2, IsDs.toPs l xs p h3⟩
  | .lst l, v, p, h => by
    rw [DL.toP, L2.IsD]
    rw [IsD] at h
    rw [plain] at p
    obtain ⟨a, xs, h1, h2, h3⟩ := h
    exact ⟨a, xs, h1, SqL.of h2, IsDs.toPs l xs p h3⟩
  | .dct _ _, v, p, h => by rw [plain] at p; cases p
  | .exc _, v, p, h => by rw [plain] at p; cases p
  | .scr _, v, p, h => by rw [plain] at p; cases p
theorem IsDs.toPs : ∀ (ds : List D) (xs : List V), plains ds = true → IsDs K mg ww H ds xs → L2.IsDs K H (DL.toPs ds) xs
  | [], xs, _, h => by
    rw [DL.toPs, L2.IsDs]
    exact h.nil'
  | d :: ds, xs, p, h => by
    rw [plains, Bool.and_eq_true] at p
    obtain ⟨x, r, h1, h2, h3⟩ := h.uncons
    rw [DL.toPs, L2.IsDs]
    exact ⟨x, r, h1, IsD.toP d x p.1 h2, IsDs.toPs ds r p.2 h3⟩
end
def okEq (d e : D) : Bool := plain d && plain e && SeqAt.shaped (toP d) && SeqAt.shaped (toP e)
def eqD (d e : D) : R D := if okEq d e = true then .ok (.bl (PyData.eqv (toP d) (toP e))) else .bad
def neD (d e : D) : R D := if okEq d e = true then .ok (.bl (!PyData.eqv (toP d) (toP e))) else .bad
def rEqD (K : PySem.W.Frag) : R2 := fun x y H Q => ∃ d e, L2.IsD K H d x ∧ L2.IsD K H e y ∧ SeqAt.shaped d = true ∧ SeqAt.shaped e = true ∧ Q (.bl (PyData.eqv d e)) H
def rNeD (K : PySem.W.Frag) : R2 := fun x y H Q => ∃ d e, L2.IsD K H d x ∧ L2.IsD K H e y ∧ SeqAt.shaped d = true ∧ SeqAt.shaped e = true ∧ Q (.bl (!PyData.eqv d e)) H
theorem opEq (hu : X.A.units + 64 < cLine) (h : X.K = K := by rfl) : OpR X (compareOp .Eq) (rEqD K) := h ▸ op_eqD hu
theorem opNe (hu : X.A.units + 64 < cLine) (h : X.K = K := by rfl) : OpR X (compareOp .NotEq) (rNeD K) := h ▸ op_neD hu
theorem o_eq : Op2 K mg ww .d (rEqD K) eqD := by
  intro E os H x y d e Q dm hx hy o
  unfold eqD at o
  split at o
  · rename_i h
    unfold okEq at h
    rw [Bool.and_eq_true, Bool.and_eq_true, Bool.and_eq_true] at h
    exact ⟨_, _, IsD.toP d x h.1.1.1 hx.full, IsD.toP e y h.1.1.2 hy.full, h.1.2, h.2, o _ H (Same.refl H) rBl⟩
  · exact o.elim
theorem o_ne : Op2 K mg ww .d (rNeD K) neD := by
  intro E os H x y d e Q dm hx hy o
  unfold neD at o
  split at o
  · rename_i h
    unfold okEq at h
    rw [Bool.and_eq_true, Bool.and_eq_true, Bool.and_eq_true] at h
    exact ⟨_, _, IsD.toP d x h.1.1.1 hx.full, IsD.toP e y h.1.1.2 hy.full, h.1.2, h.2, o _ H (Same.refl H) rBl⟩
  · exact o.elim
def negD : D → R D
  | .int i => .ok (.int (-i))
  | _ => .bad
def mNeg (m : Ev → R D) : Ev → R D := fun ρ => (m ρ).bind negD
end
end DL
namespace DL
open PySem PySem.Spec L2
section
variable {g : D → Ev → R Ev} {mb : Ev → R Fl} {t : Ev → R Bool} {e : Ev → R D}
theorem rangeD_len {lo : Int} {n : Nat} : (rangeD lo n).length = n := by
  unfold rangeD
  rw [List.length_map, List.length_range]
theorem rangeD_get {lo : Int} {n i : Nat} {d : D} (h : (rangeD lo n)[i]? = some d) : i < n ∧ d = .int (lo + (i : Nat)) := by
  unfold rangeD at h
  rw [List.getElem?_map] at h
  cases q : (List.range n)[i]? with
  | none =>
    rw [q] at h
    cases h
  | some k =>
    rw [q] at h
    have hi := (List.getElem?_eq_some_iff.mp q).1
    rw [List.length_range] at hi
    rw [List.getElem?_range hi] at q
    cases q
    cases h
    exact ⟨hi, rfl⟩
theorem lcD_map {ρ : Ev} {ρ1 : D → Ev} {f : D → D} : ∀ {items : List D}, (∀ d ∈ items, g d ρ = .ok (ρ1 d) ∧ t (ρ1 d) = .ok true ∧ e (ρ1 d) = .ok (f d)) → lcD g t e ρ items = .ok (items.map f)
  | [], _ => rfl
  | d :: ds, h => by
    obtain ⟨h1, h2, h3⟩ := h d List.mem_cons_self
    have ih := lcD_map (items := ds) fun x hx => h x (List.mem_cons_of_mem _ hx)
    rw [lcD, h1, R.ok_bind, h2]
    show (if true = true then (nr (e (ρ1 d))).bind fun x => (lcD g t e ρ ds).bind fun xs => .ok (x :: xs) else lcD g t e ρ ds) = _
    rw [if_pos rfl, h3, ih]
    rfl
theorem lcD_filter {ρ : Ev} {ρ1 : D → Ev} {q : D → Bool} {f : D → D} : ∀ {items : List D}, (∀ d ∈ items, g d ρ = .ok (ρ1 d) ∧ t (ρ1 d) = .ok (q d) ∧ (q d = true → e (ρ1 d) = .ok (f d))) → lcD g t e ρ items = .ok ((items.filter q).map f)
  | [], _ => rfl
  | d :: ds, h => by
    obtain ⟨h1, h2, h3⟩ := h d List.mem_cons_self
    have ih := lcD_filter (items := ds) fun x hx => h x (List.mem_cons_of_mem _ hx)
    rw [lcD, h1, R.ok_bind, h2]
    show (if q d = true then (nr (e (ρ1 d))).bind fun x => (lcD g t e ρ ds).bind fun xs => .ok (x :: xs) else lcD g t e ρ ds) = _
    cases hq : q d with
    | true =>
      rw [if_pos rfl, h3 hq, ih, List.filter_cons, hq, if_pos rfl]
      rfl
    | false =>
      rw [if_neg Bool.false_ne_true, ih, List.filter_cons, hq, if_neg Bool.false_ne_true]
end
def rowD (r : List Int) : D := .tup (r.map D.int)
def clD (rows : List (List Int)) : D := .tup (rows.map rowD)
theorem atI_nn {α : Type} {l : List α} {i : Int} {v : α} (h0 : 0 ≤ i) (h : l[i.toNat]? = some v) : atI l i = some v := Wv.atI_at h0 h
def spLaw (K : PySem.W.Frag) : Sp := fun vs H Q _ => ∃ (a : Addr) (ns : List Int), vs = [.ref a] ∧ SqL K H a (ns.map V.int) ∧ ns.length ≤ 63 ∧ ∀ H', Q (.bl true) H'
theorem law_imp {K : PySem.W.Frag} {mg : Str → Option Value} {ww : World} {f : List D → R D} (h : ∀ ns : List Int, ns.length ≤ 63 → f [.scr ns] = .ok (.bl true)) : ∀ vs H Q E, spLaw K vs H Q E → spD K mg ww 1 f vs H Q E := by
  rintro vs H Q E ⟨a, ns, rfl, hS, hl, q⟩
  refine ⟨rfl, [], [.scr ns], fun a z => (nomatch z), IsDs.cons ?_ IsDs.nil, ?_⟩
  · rw [IsD]
    exact ⟨a, rfl, hide_nil.seq hS⟩
  · rw [h ns hl]
    intro v H' s z
    rw [z.blD]
    exact q H'
end DL
namespace DL
open PySem PySem.Spec L2
section
variable {ρ : Ev} {ma mb mc m : Ev → R D} {ms : Ev → R (List D)} {f : D → D → R D} {x y z d : D} {ds : List D} {i : Nat} {r : R Fl} {k k1 k2 : Ev → R Fl} {t ta tb : Ev → R Bool} {b : Bool}
theorem v_c : mC d ρ = .ok d := rfl
theorem v_var (h : ρ[i]? = some (some d)) : mV i ρ = .ok d := by
  unfold mV
  rw [h]
theorem v_2 (h1 : ma ρ = .ok x) (h2 : mb ρ = .ok y) (h3 : f x y = .ok z) : m2 ma mb f ρ = .ok z := by
  unfold m2
  rw [h1, R.ok_bind, h2, R.ok_bind, h3]
theorem v_fn {f : List D → R D} (h1 : ms ρ = .ok ds) (h2 : f ds = .ok z) : mFn f ms ρ = .ok z := by
  unfold mFn
  rw [h1, R.ok_bind, h2]
theorem v_nil : mNil ρ = .ok [] := rfl
theorem v_cons (h1 : m ρ = .ok x) (h2 : ms ρ = .ok ds) : mCons m ms ρ = .ok (x :: ds) := by
  unfold mCons
  rw [h1, R.ok_bind, h2, R.ok_bind]
theorem v_tup (h1 : ms ρ = .ok ds) (h2 : ds.length ≤ 1000) : mTup ms ρ = .ok (.tup ds) := by
  unfold mTup
  rw [h1, R.ok_bind, if_pos h2]
theorem v_lst (h1 : ms ρ = .ok ds) (h2 : ds.length ≤ 1000) : mLst ms ρ = .ok (.lst ds) := by
  unfold mLst
  rw [h1, R.ok_bind, if_pos h2]
theorem v_inst {f : D → R D} (h1 : m ρ = .ok x) (h2 : f x = .ok z) : mInst f m ρ = .ok z := by
  unfold mInst
  rw [h1, R.ok_bind, h2]
theorem v_neg {n : Int} (h1 : m ρ = .ok (.int n)) : mNeg m ρ = .ok (.int (-n)) := by
  unfold mNeg
  rw [h1]
  rfl
theorem v_not (h1 : m ρ = .ok (.bl b)) : mNot m ρ = .ok (.bl (!b)) := by
  unfold mNot
  rw [h1]
  rfl
theorem v_notb {c : Bool} (h1 : m ρ = .ok (.bl b)) (e : (!b) = c) : mNot m ρ = .ok (.bl c) := by rw [v_not h1, e]
theorem v_and_t (h1 : ma ρ = .ok (.bl true)) (h2 : mb ρ = .ok x) : mAnd ma mb ρ = .ok x := by
  unfold mAnd
  rw [h1]
  exact h2
theorem v_and_f (h1 : ma ρ = .ok (.bl false)) : mAnd ma mb ρ = .ok (.bl false) := by
  unfold mAnd
  rw [h1]
  rfl
theorem v_and {b c : Bool} (h1 : ma ρ = .ok (.bl b)) (h2 : b = true → mb ρ = .ok (.bl c)) : mAnd ma mb ρ = .ok (.bl (b && c)) := by
  cases b with
  | true => exact v_and_t h1 (h2 rfl)
  | false => exact v_and_f h1
theorem v_chain {g : D → D → R D} {w : D} {b : Bool} {c : Bool} (h1 : ma ρ = .ok x) (h2 : mb ρ = .ok y) (h3 : f x y = .ok (.bl b)) (h4 : b = true → mc ρ = .ok w) (h5 : b = true → g y w = .ok (.bl c)) : mChain ma mb mc f g ρ = .ok (.bl (b && c)) := by
  unfold mChain
  rw [h1, R.ok_bind, h2, R.ok_bind, h3, R.ok_bind]
  cases b with
  | true =>
    show ((mc ρ).bind fun w => g y w) = _
    rw [h4 rfl, R.ok_bind, h5 rfl]
    rfl
  | false => rfl
theorem v_sl {lo hi : Option Int} {ml mh : Ev → R (Option Int)} (h1 : m ρ = .ok x) (h2 : ml ρ = .ok lo) (h3 : mh ρ = .ok hi) (h4 : slD x lo hi = .ok z) : mSl m ml mh ρ = .ok z := by
  unfold mSl
  rw [h1, R.ok_bind, h2, R.ok_bind, h3, R.ok_bind, h4]
theorem v_noP : mNoP ρ = .ok none := rfl
theorem v_part {n : Int} (h : m ρ = .ok (.int n)) : mPart m ρ = .ok (some n) := by
  unfold mPart
  rw [h]
  rfl
theorem v_tst (h : m ρ = .ok (.bl b)) : mTst m ρ = .ok b := by
  unfold mTst
  rw [h]
  rfl
theorem v_tru (h : m ρ = .ok x) (h2 : truD x = .ok b) : mTru m ρ = .ok b := by
  unfold mTru
  rw [h, R.ok_bind, h2]
theorem v_tn (h : t ρ = .ok b) : mTn t ρ = .ok (!b) := by
  unfold mTn
  rw [h]
  rfl
theorem v_tor {c : Bool} (h1 : ta ρ = .ok b) (h2 : b = false → tb ρ = .ok c) : mTor ta tb ρ = .ok (b || c) := by
  unfold mTor
  rw [h1]
  cases b with
  | true => rfl
  | false => exact h2 rfl
theorem v_it {g : List D → R (List D)} {es : List D} (h1 : ms ρ = .ok ds) (h2 : g ds = .ok es) : mIt ms g ρ = .ok es := by
  unfold mIt
  rw [h1, R.ok_bind, h2]
theorem v_items (h1 : m ρ = .ok x) (h2 : asItems x = .ok ds) : mItems m ρ = .ok ds := by
  unfold mItems
  rw [h1, R.ok_bind, h2]
theorem v_lc {mi : Ev → R (List D)} {src : List (Option Nat)} {g : D → Ev → R Ev} {e : Ev → R D} {es : List D} (h1 : mi ρ = .ok ds) (hl : ds.length ≤ 100000) (h2 : lcD g t e (src.map (pickD ρ)) ds = .ok es) : mLc mi src g t e ρ = .ok (.lst es) := by
  unfold mLc
  rw [h1, R.ok_bind, if_pos hl, h2]
  rfl
theorem v_eq (h : m ρ = .ok x) (e : x = y) : m ρ = .ok y := by rw [h, e]
theorem v_eqT {b c : Bool} (h : t ρ = .ok b) (e : b = c) : t ρ = .ok c := by rw [h, e]
theorem x_set (h : m ρ = .ok d) (h2 : k (ρ.set i (some d)) = r) : sSeq (sSet i m) k ρ = r := by
  unfold sSeq sSet
  rw [h]
  exact h2
theorem x_ret (h : m ρ = .ok d) : sRet m ρ = .ok (.rt d) := by
  unfold sRet
  rw [h]
  rfl
theorem x_if_t (h : t ρ = .ok true) (h2 : sSeq k1 k ρ = r) : sSeq (sIf t k1 k2) k ρ = r := by
  unfold sSeq sIf at *
  rw [h]
  exact h2
theorem x_if_f (h : t ρ = .ok false) (h2 : sSeq k2 k ρ = r) : sSeq (sIf t k1 k2) k ρ = r := by
  unfold sSeq sIf at *
  rw [h]
  exact h2
theorem x_if1_t (h : t ρ = .ok true) (h2 : k1 ρ = r) : sIf t k1 k2 ρ = r := by
  unfold sIf
  rw [h]
  exact h2
theorem x_if1_f (h : t ρ = .ok false) (h2 : k2 ρ = r) : sIf t k1 k2 ρ = r := by
  unfold sIf
  rw [h]
  exact h2
theorem x_nil (h : k ρ = r) : sSeq sNil k ρ = r := h
theorem x_seqret (h : m ρ = .ok d) : sSeq (sRet m) k ρ = .ok (.rt d) := by
  unfold sSeq sRet
  rw [h]
  rfl
theorem x_app1 (hi : ρ[i]? = some (some (.lst ds))) (h : m ρ = .ok d) (hl : ds.length ≤ 100000) : sApp i m ρ = .ok (.nx (ρ.set i (some (.lst (ds ++ [d]))))) := by
  unfold sApp
  rw [hi]
  dsimp only
  rw [h, R.ok_bind, if_pos hl]
theorem x_asg {g : D → Ev → R Ev} {ρ' : Ev} (h : m ρ = .ok d) (hg : g d ρ = .ok ρ') (h2 : k ρ' = r) : sSeq (sAsg g m) k ρ = r := by
  unfold sSeq sAsg
  rw [h, R.ok_bind, hg]
  exact h2
theorem x_for {mi : Ev → R (List D)} {g : D → Ev → R Ev} {mb : Ev → R Fl} {ρ' : Ev} (h1 : mi ρ = .ok ds) (h2 : forD g mb ds ρ = .ok (.nx ρ')) (h3 : k ρ' = r) : sSeq (sFor mi g mb) k ρ = r := by
  unfold sSeq sFor
  rw [h1, R.ok_bind, h2]
  exact h3
theorem x_run {n : Nat} {mb : Ev → R Fl} (h : mb (ds.map some ++ List.replicate (n - ds.length) none) = .ok (.rt d)) : runB n mb ds = .ok d := by
  unfold runB
  rw [h]
end
def Go (r : R Fl) (P : Fl → Prop) : Prop := ∃ f, r = .ok f ∧ P f
section
variable {ρ : Ev} {ma mb mc m : Ev → R D} {ms : Ev → R (List D)} {x y z d : D} {ds : List D} {i : Nat} {k k1 k2 k3 : Ev → R Fl} {t ta tb : Ev → R Bool} {b : Bool} {P : Fl → Prop}
theorem w_run {n : Nat} {mb : Ev → R Fl} (h : Go (mb (ds.map some ++ List.replicate (n - ds.length) none)) fun f => f = .rt d) : runB n mb ds = .ok d := by
  obtain ⟨f, h1, h2⟩ := h
  subst h2
  exact x_run h1
theorem w_set (h : m ρ = .ok d) (h2 : Go (k (ρ.set i (some d))) P) : Go (sSeq (sSet i m) k ρ) P := by
  rw [x_set h rfl]
  exact h2
theorem w_ret (h : m ρ = .ok d) (h2 : P (.rt d)) : Go (sRet m ρ) P := ⟨_, x_ret h, h2⟩
theorem w_seqret (h : m ρ = .ok d) (h2 : P (.rt d)) : Go (sSeq (sRet m) k ρ) P := ⟨_, x_seqret h, h2⟩
theorem w_if (h : t ρ = .ok b) (h1 : b = true → Go (sSeq k1 k ρ) P) (h2 : b = false → Go (sSeq k2 k ρ) P) : Go (sSeq (sIf t k1 k2) k ρ) P := by
  cases b with
  | true => rw [x_if_t h rfl]; exact h1 rfl
  | false => rw [x_if_f h rfl]; exact h2 rfl
theorem w_if1 (h : t ρ = .ok b) (h1 : b = true → Go (k1 ρ) P) (h2 : b = false → Go (k2 ρ) P) : Go (sIf t k1 k2 ρ) P := by
  cases b with
  | true => rw [x_if1_t h rfl]; exact h1 rfl
  | false => rw [x_if1_f h rfl]; exact h2 rfl
theorem w_nil (h : Go (k ρ) P) : Go (sSeq sNil k ρ) P := h
theorem w_nil1 (h : P (.nx ρ)) : Go (sNil ρ) P := ⟨_, rfl, h⟩
theorem w_app1 (hi : ρ[i]? = some (some (.lst ds))) (h : m ρ = .ok d) (hl : ds.length ≤ 100000) (h2 : P (.nx (ρ.set i (some (.lst (ds ++ [d])))))) : Go (sApp i m ρ) P := ⟨_, x_app1 hi h hl, h2⟩
theorem w_asg {g : D → Ev → R Ev} {ρ' : Ev} (h : m ρ = .ok d) (hg : g d ρ = .ok ρ') (h2 : Go (k ρ') P) : Go (sSeq (sAsg g m) k ρ) P := by
  rw [x_asg h hg rfl]
  exact h2
theorem w_forD {g : D → Ev → R Ev} {mb : Ev → R Fl} (I : Nat → Ev → Prop) : ∀ (items : List D) (ρ : Ev) (i0 : Nat), I i0 ρ →
    (∀ i d ρ, items[i]? = some d → I (i0 + i) ρ → ∃ ρ1, g d ρ = .ok ρ1 ∧ Go (mb ρ1) fun f => ∃ ρ2, (f = .nx ρ2 ∨ f = .ct ρ2) ∧ I (i0 + i + 1) ρ2) → ∃ ρ', forD g mb items ρ = .ok (.nx ρ') ∧ I (i0 + items.length) ρ'
  | [], ρ, i0, h, _ => ⟨ρ, rfl, h⟩
  | d :: ds, ρ, i0, h, st => by
    obtain ⟨ρ1, h1, f, h2, ρ2, hf, h3⟩ := st 0 d ρ rfl h
    obtain ⟨ρ', h4, h5⟩ := w_forD I ds ρ2 (i0 + 1) h3 fun i d' ρ3 q z => by
      have e1 : i0 + 1 + i = i0 + (i + 1) := by omega
      rw [e1] at z ⊢
      exact st (i + 1) d' ρ3 (by simpa using q) z
    refine ⟨ρ', ?_, ?_⟩
    · rw [forD, h1]
      show (R.ok ρ1).bind _ = _
      rw [R.ok_bind, h2, R.ok_bind]
      rcases hf with rfl | rfl
      · exact h4
      · exact h4
    · rw [List.length_cons]
      have e2 : i0 + 1 + ds.length = i0 + (ds.length + 1) := by omega
      rw [← e2]
      exact h5
theorem w_for {mi : Ev → R (List D)} {g : D → Ev → R Ev} {mb : Ev → R Fl} (I : Nat → Ev → Prop) (h1 : mi ρ = .ok ds) (h0 : I 0 ρ) (st : ∀ i d ρ, ds[i]? = some d → I i ρ → ∃ ρ1, g d ρ = .ok ρ1 ∧ Go (mb ρ1) fun f => ∃ ρ2, (f = .nx ρ2 ∨ f = .ct ρ2) ∧ I (i + 1) ρ2)
    (h3 : ∀ ρ', I ds.length ρ' → Go (k ρ') P) : Go (sSeq (sFor mi g mb) k ρ) P := by
  obtain ⟨ρ', e1, e2⟩ := w_forD I ds ρ 0 h0 fun i d ρ q z => by
    rw [Nat.zero_add] at z ⊢
    exact st i d ρ q z
  rw [Nat.zero_add] at e2
  rw [x_for h1 e1 rfl]
  exact h3 ρ' e2
end
theorem l_mulL {i j : Int} (h1 : -18446744073709551616 < i) (h2 : i < 18446744073709551616) : mulD (.int i) (.int j) = .ok (.int (i * j)) := if_pos (decide_eq_true (.inl ⟨h1, h2⟩))
theorem l_mulR {i j : Int} (h1 : -18446744073709551616 < j) (h2 : j < 18446744073709551616) : mulD (.int i) (.int j) = .ok (.int (i * j)) := if_pos (decide_eq_true (.inr ⟨h1, h2⟩))
theorem l_mod {i j : Int} (h : 0 < j) : modD (.int i) (.int j) = .ok (.int (i % j)) := if_pos (decide_eq_true h)
theorem l_fdiv {i j : Int} (h : 0 < j ∧ j < 1073741824) : fdivD (.int i) (.int j) = .ok (.int (i / j)) := if_pos (decide_eq_true h)
theorem l_eqI (i j : Int) : eqD (.int i) (.int j) = .ok (.bl (decide (i = j))) := by
  unfold eqD
  rw [if_pos (show okEq (.int i) (.int j) = true from rfl)]
  simp only [toP, PyData.eqv]
  congr 2
theorem l_ixT {l : List D} {i : Int} {d : D} (h : atI l i = some d) : ixD (.tup l) (.int i) = .ok d := by
  unfold ixD
  dsimp only
  rw [h]
theorem l_ix0 {x : D} {l : List D} : ixD (.tup (x :: l)) (.int 0) = .ok x := l_ixT (atI_nat (j := 0) rfl)
theorem l_ran1 {n : Int} (h : n ≤ 100000) (h0 : -100000 ≤ n) : ran1 [.int n] = .ok (rangeD 0 n.toNat) := if_pos ⟨h, h0⟩
def fit : Nat → D → Bool
  | _, .non => true
  | _, .bl _ => true
  | _, .int _ => true
  | _, .str x => PyData.strOk x
  | n + 1, .tup l => l.all (fit n)
  | n + 1, .lst l => l.all (fit n)
  | _, _ => false
theorem fits {n : Nat} (ih : ∀ d, fit n d = true → plain d = true ∧ (toP d).canLay0 = true ∧ (toP d).depth ≤ n) : ∀ l : List D, l.all (fit n) = true → plains l = true ∧ PyData.canLayAll0 (toPs l) = true ∧ PyData.depthAll (toPs l) ≤ n
  | [], _ => by
    rw [plains, toPs, PyData.canLayAll0, PyData.depthAll]
    exact ⟨rfl, rfl, Nat.zero_le _⟩
  | d :: l, h => by
    rw [List.all_cons, Bool.and_eq_true] at h
    obtain ⟨a1, a2, a3⟩ := ih d h.1
    obtain ⟨b1, b2, b3⟩ := fits ih l h.2
    rw [plains, toPs, PyData.canLayAll0, PyData.depthAll, a1, a2, b1, b2]
    exact ⟨rfl, rfl, by omega⟩
theorem fit_of : ∀ (n : Nat) (d : D), fit n d = true → plain d = true ∧ (toP d).canLay0 = true ∧ (toP d).depth ≤ n
  | n, .non, _ => by rw [plain.eq_def, toP, PyData.canLay0, PyData.depth]; exact ⟨rfl, rfl, Nat.zero_le _⟩
  | n, .bl b, _ => by rw [plain.eq_def, toP, PyData.canLay0, PyData.depth]; exact ⟨rfl, rfl, Nat.zero_le _⟩
  | n, .int i, _ => by rw [plain.eq_def, toP, PyData.canLay0, PyData.depth]; exact ⟨rfl, rfl, Nat.zero_le _⟩
  | n, .str x, h => by
    rw [plain.eq_def, toP, PyData.canLay0, PyData.depth]
    refine ⟨rfl, ?_, Nat.zero_le _⟩
    cases n <;> exact h
  | 0, .tup l, h => by cases h
  | 0, .lst l, h => by cases h
  | n + 1, .tup l, h => by
    obtain ⟨a1, a2, a3⟩ := fits (fit_of n) l h
    rw [plain.eq_def, toP, PyData.canLay0, PyData.depth]
    exact ⟨a1, a2, Nat.succ_le_succ a3⟩
  | n + 1, .lst l, h => by
    obtain ⟨a1, a2, a3⟩ := fits (fit_of n) l h
    rw [plain.eq_def, toP, PyData.canLay0, PyData.depth]
    exact ⟨a1, a2, Nat.succ_le_succ a3⟩
  | 0, .dct _ _, h => by cases h
  | n + 1, .dct _ _, h => by cases h
  | 0, .exc _, h => by cases h
  | n + 1, .exc _, h => by cases h
  | 0, .scr _, h => by cases h
  | n + 1, .scr _, h => by cases h
theorem fit_shaped {d : D} (h : fit 8 d = true) : SeqAt.shaped (toP d) = true := by
  obtain ⟨_, a2, a3⟩ := fit_of 8 d h
  unfold SeqAt.shaped
  rw [a2, Bool.true_and]
  exact decide_eq_true (by omega)
def eqvD (d e : D) : Bool := PyData.eqv (toP d) (toP e)
theorem l_ne {d e : D} (h1 : fit 8 d = true) (h2 : fit 8 e = true) : neD d e = .ok (.bl (!eqvD d e)) := by
  unfold neD okEq
  rw [fit_shaped h1, fit_shaped h2, (fit_of 8 d h1).1, (fit_of 8 e h2).1]
  rfl
mutual
theorem eqv_self : ∀ d : PyData, d.canLay0 = true → PyData.eqv d d = true
  | .none, _ => by rw [PyData.eqv]
  | .bool b, _ => by rw [PyData.eqv]; exact beq_self_eq_true b
  | .int i, _ => by rw [PyData.eqv]; exact beq_self_eq_true i
  | .str x, _ => by rw [PyData.eqv]; exact beq_self_eq_true x
  | .tuple l, h => by rw [PyData.canLay0] at h; rw [PyData.eqv]; exact eqvAll_self l h
  | .list l, h => by rw [PyData.canLay0] at h; rw [PyData.eqv]; exact eqvAll_self l h
  | .dict _, h => by rw [PyData.canLay0] at h; cases h
theorem eqvAll_self : ∀ l : List PyData, PyData.canLayAll0 l = true → PyData.eqvAll l l = true
  | [], _ => by rw [PyData.eqvAll]
  | d :: l, h => by
    rw [PyData.canLayAll0, Bool.and_eq_true] at h
    rw [PyData.eqvAll, eqv_self d h.1, eqvAll_self l h.2]
    rfl
end
theorem eqvD_self {d : D} (h : fit 8 d = true) : eqvD d d = true := eqv_self _ (fit_of 8 d h).2.1
theorem l_neS {d : D} (h : fit 8 d = true) : neD d d = .ok (.bl false) := by rw [l_ne h h, eqvD_self h]; rfl
theorem fit_mono : ∀ {n k : Nat} {d : D}, fit n d = true → n ≤ k → fit k d = true
  | n, k, .non, _, _ => by cases k <;> rfl
  | n, k, .bl b, _, _ => by cases k <;> rfl
  | n, k, .int b, _, _ => by cases k <;> rfl
  | n, k, .str b, h, _ => by cases n <;> cases k <;> exact h
  | 0, k, .tup l, h, _ => by cases h
  | 0, k, .lst l, h, _ => by cases h
  | n + 1, 0, .tup l, h, hk => by omega
  | n + 1, 0, .lst l, h, hk => by omega
  | n + 1, k + 1, .tup l, h, hk => List.all_eq_true.mpr fun x hx => fit_mono (List.all_eq_true.mp h x hx) (by omega)
  | n + 1, k + 1, .lst l, h, hk => List.all_eq_true.mpr fun x hx => fit_mono (List.all_eq_true.mp h x hx) (by omega)
  | 0, k, .dct _ _, h, _ => by cases h
  | n + 1, k, .dct _ _, h, _ => by cases h
  | 0, k, .exc _, h, _ => by cases h
  | n + 1, k, .exc _, h, _ => by cases h
  | 0, k, .scr _, h, _ => by cases h
  | n + 1, k, .scr _, h, _ => by cases h
theorem fit_row (r : List Int) : fit 1 (rowD r) = true := by
  show (r.map D.int).all (fit 0) = true
  rw [List.all_map, List.all_eq_true]
  intro x _
  rfl
theorem fit_cl (rows : List (List Int)) : fit 2 (clD rows) = true := by
  show (rows.map rowD).all (fit 1) = true
  rw [List.all_map, List.all_eq_true]
  intro x _
  exact fit_row x
theorem blsD_map (f : D → Bool) : ∀ l : List D, blsD (l.map fun d => .bl (f d)) = some (l.map f)
  | [] => rfl
  | d :: l => by
    rw [List.map_cons, List.map_cons, blsD, blsD_map f l]
    rfl
theorem l_all (f : D → Bool) (l : List D) : allD [.lst (l.map fun d => .bl (f d))] = .ok (.bl (l.all f)) := by
  unfold allD
  dsimp only
  rw [blsD_map]
  dsimp only
  rw [List.all_map]
  rfl
theorem cut_drop {α : Type} (l : List α) {c : Int} (h0 : 0 ≤ c) (h : c ≤ l.length) : cutL l (some c) none = l.drop c.toNat := by
  unfold cutL
  have e : HT.sIx l.length 0 (some c) = c.toNat := by
    show (if c < 0 then _ else _) = _
    rw [if_neg (by omega)]
    omega
  rw [e, HT.sIx_none]
  exact List.take_of_length_le (by rw [List.length_drop]; exact Nat.le_refl _)
section
variable {ρ : Ev} {mb ms k : Ev → R Fl} {cls : List Str} {n i : Nat} {c : Str} {d : D} {r : R Fl}
end
end DL
namespace L2
open PySem PySem.Spec PyProof.Rows
section
variable {X : Cx}
def rInQ (K : PySem.W.Frag) (neg : Bool) : R2 := fun x y H Q => ∃ d ds, IsD K H d x ∧ (IsD K H (.list ds) y ∨ IsD K H (.tuple ds) y) ∧ d.canLay0 = true ∧ PyData.canLayAll0 ds = true ∧ PyData.depthAll ds ≤ 63 ∧
  Q (.bl (if neg = true then !(ds.any fun e => PyData.eqv e d) else ds.any fun e => PyData.eqv e d)) H
theorem op_inQ (hu : X.A.units + 64 < cLine) : OpR X (compareOp .In) (rInQ X.K false) := by
  intro pins s σ H x y v u Q I rx ry h
  obtain ⟨d, ds, hd, he, sd, se, le, q⟩ := h
  obtain ⟨as, ra⟩ := IsD.reads I d x v hd rx
  have hm := Nat.min_le_left (PyData.depthAll ds) d.depth
  rcases he with he | he
  · obtain ⟨bs, rb⟩ := IsD.reads I _ y u he ry
    exact SeqAt.in_list_reads rb ra se sd (by omega) ⟨.bl _, H, I, rfl, q⟩
  · obtain ⟨bs, rb⟩ := IsD.reads I _ y u he ry
    exact SeqAt.in_tuple_reads rb ra se sd (by omega) ⟨.bl _, H, I, rfl, q⟩
theorem op_notInQ (hu : X.A.units + 64 < cLine) : OpR X (compareOp .NotIn) (rInQ X.K true) := by
  intro pins s σ H x y v u Q I rx ry h
  obtain ⟨d, ds, hd, he, sd, se, le, q⟩ := h
  obtain ⟨as, ra⟩ := IsD.reads I d x v hd rx
  have hm := Nat.min_le_left (PyData.depthAll ds) d.depth
  rcases he with he | he
  · obtain ⟨bs, rb⟩ := IsD.reads I _ y u he ry
    exact SeqAt.notIn_list_reads rb ra se sd (by omega) ⟨.bl _, H, I, rfl, q⟩
  · obtain ⟨bs, rb⟩ := IsD.reads I _ y u he ry
    exact SeqAt.notIn_tuple_reads rb ra se sd (by omega) ⟨.bl _, H, I, rfl, q⟩
end
end L2
namespace DL
open PySem PySem.Spec L2
section
variable {X : Cx} {K : PySem.W.Frag} {mg : Str → Option Value} {ww : World}
def inQ (neg : Bool) (d e : D) : R D := match e with
  | .lst l => if okEq d e = true then .ok (.bl (if neg = true then !(l.any fun y => eqvD y d) else l.any fun y => eqvD y d)) else .bad
  | .tup l => if okEq d e = true then .ok (.bl (if neg = true then !(l.any fun y => eqvD y d) else l.any fun y => eqvD y d)) else .bad
  | _ => .bad
theorem any_toPs (d : D) : ∀ l : List D, ((toPs l).any fun e => PyData.eqv e (toP d)) = l.any fun y => eqvD y d
  | [] => by rw [toPs]; rfl
  | y :: l => by rw [toPs, List.any_cons, List.any_cons, any_toPs d l]; rfl
theorem o_inQ {neg : Bool} : Op2 K mg ww .d (rInQ K neg) (inQ neg) := by
  intro E os H x y d e Q dm hx hy o
  unfold inQ at o
  split at o
  · rename_i l
    split at o
    · rename_i h
      unfold okEq at h
      rw [Bool.and_eq_true, Bool.and_eq_true, Bool.and_eq_true] at h
      have he := IsD.toP (.lst l) y h.1.1.2 hy.full
      have sd := SeqAt.canLay_of_shaped h.1.2
      have se := SeqAt.canLay_of_shaped h.2
      have de := SeqAt.depth_of_shaped h.2
      rw [toP] at he se de
      rw [PyData.canLay0] at se
      rw [PyData.depth] at de
      refine ⟨_, _, IsD.toP d x h.1.1.1 hx.full, .inl he, sd, se, by omega, ?_⟩
      rw [any_toPs]
      exact o _ H (Same.refl H) rBl
    · exact o.elim
  · rename_i l
    split at o
    · rename_i h
      unfold okEq at h
      rw [Bool.and_eq_true, Bool.and_eq_true, Bool.and_eq_true] at h
      have he := IsD.toP (.tup l) y h.1.1.2 hy.full
      have sd := SeqAt.canLay_of_shaped h.1.2
      have se := SeqAt.canLay_of_shaped h.2
      have de := SeqAt.depth_of_shaped h.2
      rw [toP] at he se de
      rw [PyData.canLay0] at se
      rw [PyData.depth] at de
      refine ⟨_, _, IsD.toP d x h.1.1.1 hx.full, .inr he, sd, se, by omega, ?_⟩
      rw [any_toPs]
      exact o _ H (Same.refl H) rBl
    · exact o.elim
  · exact o.elim
theorem opInQ (hu : X.A.units + 64 < cLine) (h : X.K = K := by rfl) : OpR X (compareOp .In) (rInQ K false) := h ▸ op_inQ hu
theorem opNotInQ (hu : X.A.units + 64 < cLine) (h : X.K = K := by rfl) : OpR X (compareOp .NotIn) (rInQ K true) := h ▸ op_notInQ hu
end
theorem ok_fit {d e : D} (h1 : fit 8 d = true) (h2 : fit 8 e = true) : okEq d e = true := by
  unfold okEq
  rw [fit_shaped h1, fit_shaped h2, (fit_of 8 d h1).1, (fit_of 8 e h2).1]
  rfl
theorem l_inT {d : D} {l : List D} (h1 : fit 8 d = true) (h2 : fit 8 (.tup l) = true) : inQ false d (.tup l) = .ok (.bl (l.any fun y => eqvD y d)) := if_pos (ok_fit h1 h2)
theorem l_notInL {d : D} {l : List D} (h1 : fit 8 d = true) (h2 : fit 8 (.lst l) = true) : inQ true d (.lst l) = .ok (.bl (!(l.any fun y => eqvD y d))) := if_pos (ok_fit h1 h2)
theorem fit_all {n : Nat} {l : List D} (h : ∀ x ∈ l, fit n x = true) : l.all (fit n) = true := List.all_eq_true.mpr h
theorem fit_ints (r : List Int) : ∀ x ∈ r.map D.int, fit 0 x = true := fun x hx => by
  obtain ⟨i, _, rfl⟩ := List.mem_map.mp hx
  rfl
theorem l_neI (i j : Int) : neD (.int i) (.int j) = .ok (.bl (!decide (i = j))) := by
  unfold neD
  rw [if_pos (show okEq (.int i) (.int j) = true from rfl)]
  simp only [toP, PyData.eqv]
  congr 2
end DL
namespace L2
open PySem PySem.Spec PyProof.Rows
section
variable {X : Cx}
end
end L2
namespace DL
open PySem PySem.Spec L2
section
variable {X : Cx} {K : PySem.W.Frag} {mg : Str → Option Value} {ww : World}
def intsD : List D → Option (List Int)
  | [] => some []
  | .int b :: l => (intsD l).map (b :: ·)
  | _ => none
theorem ints_is {H : Hp} : ∀ {ds : List D} {xs : List V} {bs : List Int}, intsD ds = some bs → IsDs K mg ww H ds xs → xs = bs.map V.int
  | [], xs, bs, e, h => by
    cases e
    exact h.nil'
  | .int b :: l, xs, bs, e, h => by
    obtain ⟨x, r, rfl, h1, h2⟩ := h.uncons
    unfold intsD at e
    cases q : intsD l with
    | none =>
      rw [q] at e
      cases e
    | some bs' =>
      rw [q] at e
      cases e
      rw [IsD] at h1
      rw [h1, ints_is q h2]
      rfl
theorem intsD_map : ∀ l : List Int, intsD (l.map D.int) = some l
  | [] => rfl
  | i :: l => by
    rw [List.map_cons, intsD, intsD_map l]
    rfl
def ofInts (f : List Int → R D) (l : List D) : R D := match intsD l with
  | some ns => f ns
  | none => .bad
end
end DL
namespace L2
open PySem PySem.Spec PyProof.Rows
section
variable {X : Cx}
end
end L2
namespace DL
open PySem PySem.Spec L2
section
variable {X : Cx} {K : PySem.W.Frag} {mg : Str → Option Value} {ww : World} {E : XK} {ow : List Bool} {md : Md} {o e : Expr} {es : List Expr} {m : Ev → R D} {ms : Ev → R (List D)} {name : Str} {apos cpos : Pos} {id : String} {r : V → List V → Hp → VK → Prop} {f : Str → List D → R D}
end
end DL
namespace L2
open PySem PySem.Spec PyProof.Rows
theorem vals_of : ∀ {ns : List Int} {us : List Value}, IntsAre us ns → Vals (ns.map V.int) us
  | _, _, .nil => .nil
  | _, _, .cons n t h => .cons ⟨t, rfl⟩ (vals_of h)
def sortI (ns : List Int) : List Int := ns.mergeSort fun a b => decide (a ≤ b)
theorem sortI_perm (ns : List Int) : (sortI ns).Perm ns := List.mergeSort_perm ns _
theorem sortI_inc (ns : List Int) : (sortI ns).Pairwise (· ≤ ·) := by
  have h := List.pairwise_mergeSort (le := fun a b : Int => decide (a ≤ b)) (fun a b c h1 h2 => decide_eq_true (Int.le_trans (of_decide_eq_true h1) (of_decide_eq_true h2)))
    (fun a b => by
      rcases Int.le_total a b with z | z
      · rw [decide_eq_true z]; rfl
      · rw [decide_eq_true z, Bool.or_true]) ns
  exact h.imp fun h => of_decide_eq_true h
theorem sorted_uni : ∀ {a b : List Int}, a.Perm b → a.Pairwise (· ≤ ·) → b.Pairwise (· ≤ ·) → a = b
  | [], b, p, _, _ => (List.Perm.nil_eq p)
  | x :: a, [], p, _, _ => by cases p.symm.nil_eq
  | x :: a, y :: b, p, ha, hb => by
    have h1 := (List.pairwise_cons.mp ha).1
    have h2 := (List.pairwise_cons.mp hb).1
    have mx : x ∈ y :: b := p.mem_iff.mp List.mem_cons_self
    have my : y ∈ x :: a := p.mem_iff.mpr List.mem_cons_self
    have e : x = y := by
      have q1 : x ≤ y := by
        rcases List.mem_cons.mp my with z | z
        · omega
        · exact h1 y z
      have q2 : y ≤ x := by
        rcases List.mem_cons.mp mx with z | z
        · omega
        · exact h2 x z
      omega
    subst e
    rw [sorted_uni (List.perm_cons x |>.mp p) (List.pairwise_cons.mp ha).2 (List.pairwise_cons.mp hb).2]
section
variable {X : Cx}
end
end L2
namespace DL
open PySem PySem.Spec L2
section
variable {X : Cx} {K : PySem.W.Frag} {mg : Str → Option Value} {ww : World}
end
end DL
namespace Wv
open PySem
theorem bt_max : bootBuiltins "max" = some (.builtin "max") := by decide +kernel
theorem bt_sorted : bootBuiltins "sorted" = some (.builtin "sorted") := by decide +kernel
end Wv
namespace DL
open PySem PySem.Spec L2
section
variable {X : Cx} {K : PySem.W.Frag} {mg : Str → Option Value} {ww : World} {E : XK} {ow : List Bool} {a : Expr} {ms : Ev → R (List D)} {m : Ev → R D} {p p1 p2 p3 p4 p5 p6 p7 pos pos2 : Pos}
end
end DL
namespace DL
open PySem PySem.Spec L2
section
variable {ρ : Ev} {k : Ev → R Fl} {P : Fl → Prop} {t : Ev → R Bool} {mb : Ev → R Fl}
end
end DL
namespace L2
open PySem PySem.Spec PyProof.Rows
theorem any_range (bs : List Bool) : (List.range bs.length).any (fun i => bs.getD i false) = bs.any id := by
  have e := range_getD bs false
  have h : ((List.range bs.length).map (fun i => bs.getD i false)).any id = bs.any id := by rw [e]
  rw [List.any_map] at h
  exact h
section
variable {X : Cx}
theorem call_any_list (hc : X.calm = true) : CallR X (.builtin "any") (fun xs H Q => ∃ (p : Addr) (bs : List Bool), xs = [.ref p] ∧ SqL X.K H p (bs.map V.bl) ∧ Q (.bl (bs.any id)) H) := by
  intro pins s σ H xs us Q I r h
  obtain ⟨p, bs, rfl, hq, q⟩ := h
  obtain ⟨u, rfl, rx⟩ := vals1 r
  cases rx
  obtain ⟨its, rv, pl, hz⟩ := I.list hq
  have hl := rv.length
  rw [List.length_map] at hl
  have hlt : p < s.heap.objs.size := by
    obtain ⟨o, n, e, _⟩ := pl
    exact Heap.lt_size e
  have hh : X.A.in1.handled = none := I.ok.hd hc
  refine call_any_walk (wpAny_pyIter_list pl.isList ?_)
  refine ⟨s.heap.objs.size, _, _, _, _, _, fun i => bs.getD i false, rfl, Walks.list hh _ p (Nat.ne_of_lt hlt) its.toArray, ⟨⟨_, Heap.get?_push_size _ rfl, rfl, rfl⟩, pl.isList.push _⟩, ?_, fun h' tk hk => ?_⟩
  · intro i v s' Q' E' hP hQ
    have hP' : its[i]? = some v := by simpa using hP
    obtain ⟨x, hx, rx⟩ := rv.get_back hP'
    rw [List.getElem?_map] at hx
    cases eb : bs[i]? with
    | none =>
      rw [eb] at hx
      cases hx
    | some b =>
      rw [eb] at hx
      cases hx
      cases (show v = Value.bool b from rx)
      have e : bs.getD i false = b := by rw [List.getD_eq_getElem?_getD, eb]; rfl
      dsimp only at hQ
      rw [e] at hQ
      exact wpAny_truthy_bool hQ
  · have e : (List.range its.toArray.size).any (fun i => bs.getD i false) = bs.any id := by
      rw [List.size_toArray, ← hl]
      exact any_range bs
    rw [e]
    refine ⟨.bl _, H, I.kept (t' := tk) (h' := h') fun b o e => hk b o ?_ (Heap.get?_push_of_some _ e), rfl, q⟩
    exact fun z => absurd (Heap.lt_size e) (by rw [List.mem_singleton.mp z]; exact Nat.lt_irrefl _)
end
end L2
namespace Wv
open PySem
end Wv
namespace DL
open PySem PySem.Spec L2
section
variable {X : Cx} {K : PySem.W.Frag} {mg : Str → Option Value} {ww : World} {E : XK} {ow : List Bool}
def rAny (K : PySem.W.Frag) : List V → Hp → VK → Prop := fun xs H Q => ∃ (p : Addr) (bs : List Bool), xs = [.ref p] ∧ SqL K H p (bs.map V.bl) ∧ Q (.bl (bs.any id)) H
theorem callAny (hc : X.calm = true := by rfl) (h : X.K = K := by rfl) : CallR X (.builtin "any") (rAny K) := h ▸ call_any_list hc
end
end DL
namespace L2
open PySem PySem.Spec PyProof.Rows
section
variable {X : Cx} {body : List Stmt} {n : Str} {np hp pos : Pos} {b₀ : Stmt} {suite : List Stmt} {Ch : Addr} {tb ts : TS}
end
end L2
namespace DL
open PySem PySem.Spec L2
section
variable {X : Cx} {K : PySem.W.Frag} {mg : Str → Option Value} {ww : World} {ow : List Bool} {E : XK} {fro own own' : List Addr} {H H' : Hp} {σ : St} {ρ : Ev}
section
variable {body : List Stmt} {mb : Ev → R Fl} {pos : Pos}
end
end
end DL
namespace L2
open PySem PySem.Spec PyProof.Rows
section
variable {X : Cx} {tg : Expr}
end
section
variable {X : Cx}
end
open AutoSeq1 (wpAny_loadPart')
end L2
namespace DL
open PySem PySem.Spec L2
section
variable {X : Cx} {K : PySem.W.Frag} {mg : Str → Option Value} {ww : World} {E : XK} {ow : List Bool} {os : List Addr} {H : Hp} {tg l : Expr} {m : Ev → R D} {st : Bool}
end
end DL
namespace L2
open PySem PySem.Spec PyProof.Rows
section
variable {X : Cx}
end
end L2
namespace DL
open PySem PySem.Spec L2
section
variable {X : Cx} {K : PySem.W.Frag} {mg : Str → Option Value} {ww : World} {E : XK} {ow : List Bool} {a e : Expr} {m ma : Ev → R D} {ml mh : Ev → R (Option Int)} {pos p2 : Pos} {lo hi : Option Expr}
end
end DL
namespace L2
open PySem PySem.Spec PyProof.Rows PySem.W PySem.Builtin PySem.Builtin.ObjectAttr PySem.Builtin.Getset_descriptor PySem.Calls
section
variable {prog : Program} {w : World} {A : Around} {E : Value → Shared → Prop} {K : Frag} {x C : Addr} {s : Shared}
end
structure ExcK (K : PySem.W.Frag) (C : Addr) : Prop where
  ga : findIn K (.ref C) "__getattribute__" = some (some (.builtin "BaseException.__getattribute__"))
  gr : findIn K (.ref C) "__getattr__" = some none
  ac : findIn K (.ref C) "__class__" = some (some (.builtin "object.__class__"))
  gg : specialIn K (.builtin "object.__class__") "__get__" = some (some (.builtin "getset_descriptor.__get__"))
  tk : takesIn K (.builtin "object.__class__") = some true
  mo : mroIn K C (.type "object") = some true
  be : subIn K (.ref C) (.type "BaseException") = some true
  cl : isClsIn K C = true
section
variable {X : Cx}
end
end L2
namespace DL
open PySem PySem.Spec L2
section
variable {X : Cx} {K : PySem.W.Frag} {mg : Str → Option Value} {ww : World} {ow : List Bool} {E : XK}
end
end DL
namespace L2
open PySem PySem.Spec PyProof.Rows
open AutoSeq1 (wpAny_loadPart')
section
variable {prog : Program} {w : World} {A : Around} {E : Value → Shared → Prop} {s : Shared}
def IsRv (h : Heap) (a l : Addr) (i : Int) : Prop := ∃ o, h.get? a = some o ∧ o.cls = .type "reversed" ∧ o.data = .fields #[.ref l, rawInt i]
theorem IsRv.ty {a l : Addr} {i : Int} (x : IsRv s.heap a l i) : s.TypeIs (.ref a) "reversed" := let ⟨o, ho, hc, _⟩ := x; ⟨o, ho, hc⟩
end
end L2
namespace L2
open PySem PySem.Spec PyProof.Rows
open AutoSeq1 (wpAny_loadPart')
theorem wpAny_ifF {α : Type} {M : Model} {A : Around} {E : Value → Shared → Prop} {s : Shared} {Q : α → Shared → Prop} {c : Bool} {x y : Sem α} (h : c = false) (k : wpAny M A y Q E s) : wpAny M A (if c = true then x else y) Q E s := by
  rw [h, if_neg Bool.false_ne_true]
  exact k
section
variable {prog : Program} {w : World} {A : Around} {E : Value → Shared → Prop} {s : Shared}
end
end L2
namespace L2
open PySem PySem.Spec PyProof.Rows
open AutoSeq1 (wpAny_loadPart')
def emptyO : Obj := { cls := .type "list", data := .seq ([] : List Value).toArray }
section
variable {prog : Program} {w : World} {A : Around} {E : Value → Shared → Prop} {s : Shared}
end
end L2
namespace L2
open PySem PySem.Spec PyProof.Rows
open AutoSeq1 (wpAny_loadPart')
section
variable {prog : Program} {w : World} {A : Around} {E : Value → Shared → Prop} {s : Shared}
end
section
variable {X : Cx} {e : Expr} {te : TE} {p p' pos pos' : Pos}
end
end L2
namespace DL
open PySem PySem.Spec L2
section
variable {X : Cx} {K : PySem.W.Frag} {mg : Str → Option Value} {ww : World} {E : XK} {ow : List Bool} {e : Expr} {m : Ev → R D} {p p' pos pos' : Pos}
end
end DL
namespace L2
open PySem PySem.Spec PyProof.Rows
def KeyIn (K : PySem.W.Frag) (H : Hp) (d : PyData) (v : V) : Prop := keyD d = true ∧ d.depth ≤ 8 ∧ (∃ b, v = .ref b) ∧ IsD K H d v
def Dx (K : PySem.W.Frag) (w : World) (H : Hp) (a : Addr) (ys : List (PyData × Addr × Value)) : Prop := H a = some (.ext (DL.DictX w a ys)) ∧ ∀ q ∈ ys, KeyIn K H q.1 (.ref q.2.1)
section
variable {X : Cx} {pins : List (Addr × Obj)} {σ : St} {H : Hp} {s : Shared} {a b : Addr} {ys : List (PyData × Addr × Value)} {k : PyData}
theorem key_is (I : Inv X pins σ H s) (h : KeyIn X.K H k (.ref b)) : (pdKind X.prog X.w).is s.heap k b := by
  obtain ⟨h1, h2, _, h3⟩ := h
  obtain ⟨as, r⟩ := IsD.reads I k (.ref b) (.ref b) h3 rfl
  exact ⟨h1, h2, as, r⟩
theorem dx_of (I : Inv X pins σ H s) (h : Dx X.K X.w H a ys) : ys.length ≤ sizeLine ∧ (a == sysModules) = false ∧ s.heap.DictOfH (pdKind X.prog X.w) a ys := by
  obtain ⟨⟨z, y, o, es, ep, h1, h2, h3, h4, h5⟩, _, _⟩ := (show ObjOk X.prog X.w H s.heap a (.ext (DL.DictX X.w a ys)) from I.hok a _ h.1)
  exact ⟨z, y, o, es, ep, h1, h2, h3, h4, fun q hq => key_is I (h.2 q hq), h5⟩
theorem dx_new {w : World} {h' : Heap} {ys : List (PyData × Addr × Value)} (prog : Program) (z : ys.length ≤ sizeLine) (y : (a == sysModules) = false) (hd : h'.DictOfH (pdKind prog w) a ys) : ObjOk prog w H h' a (.ext (DL.DictX w a ys)) := by
  obtain ⟨o, es, ep, h1, h2, h3, h4, _, h5⟩ := hd
  refine ⟨⟨z, y, o, es, ep, h1, h2, h3, h4, h5⟩, ⟨o, h1⟩, fun g1 g2 hg hk => ?_⟩
  obtain ⟨z, y, o, es, ep, h1, h2, h3, h4, h5⟩ := hg
  exact ⟨z, y, o, es, ep, hk _ h1, h2, h3, h4, h5⟩
theorem room_x {A : Around} (hu : A.units + 64 < cLine) : (pdKind X.prog X.w).room A.in1 := by
  show A.units + 1 + 8 < cLine
  omega
noncomputable def rInX (K : PySem.W.Frag) (w : World) (neg : Bool) : R2 := fun x y H Q => ∃ a ys k, y = .ref a ∧ Dx K w H a ys ∧ KeyIn K H k x ∧ Q (.bl (if neg = true then !(atKey ys k).isSome else (atKey ys k).isSome)) H
theorem op_notInX (hu : X.A.units + 64 < cLine) : OpR X (compareOp .NotIn) (rInX X.K X.w true) := by
  intro pins s σ H x y v u Q I rx ry h
  obtain ⟨a, ys, k, rfl, hx, hk, q⟩ := h
  obtain ⟨b, rfl⟩ := hk.2.2.1
  cases rx
  cases ry
  obtain ⟨z, sy, dd⟩ := dx_of I hx
  exact wpAny_notIn_heap (room_x hu) (key_is I hk) sy dd ⟨.bl _, H, I.tok _, rfl, q⟩
noncomputable def rGetX (K : PySem.W.Frag) (w : World) : R2 := fun x y H Q => ∃ a ys k p v, x = .ref a ∧ Dx K w H a ys ∧ KeyIn K H k y ∧ atKey ys k = some p ∧ RelV v p.2 ∧ Q v H
theorem ix_dict (hu : X.A.units + 64 < cLine) : IxR X (rGetX X.K X.w) := by
  intro value slice pins s σ H x y v u Q I rx ry h hs
  obtain ⟨a, ys, k, p, z, rfl, hx, hk, hp, rv, q⟩ := h
  obtain ⟨b, rfl⟩ := hk.2.2.1
  cases rx
  cases ry
  obtain ⟨_, sy, dd⟩ := dx_of I hx
  exact tail_any dd.typeIs PySem.F.slot_dict_getitem.lookup (wpAny_getItem_heap (room_x hu) (key_is I hk) dd hp ⟨z, H, I.tok _, rv, q⟩) hs
def tDNewX (w : World) : TE := fun _ H Q => ∀ p, H p = none → Q (.ref p) (upd H p (.ext (DL.DictX w p [])))
theorem Inv.big' (I : Inv X pins σ H s) : sysModules < s.heap.objs.size := by
  have h : mainGlobals < s.heap.objs.size := (I.mod.glob.keeps I.bk).lt
  exact Nat.lt_trans (by decide) h
theorem pe_dnewX {pos : Pos} : PE X (.Dict [] [] pos) (tDNewX X.w) := fun pins s σ H Q I h =>
  wpAny_Dict_empty ⟨.ref s.heap.objs.size, _, I.laid (a := s.heap.objs.size) (o := .ext (DL.DictX X.w s.heap.objs.size [])) (t' := s.toks) (fun _ _ q => Heap.get?_push_of_some _ q) (Nat.le_refl _)
    (dx_new X.prog (Nat.zero_le _) (beq_eq_false_iff_ne.mpr (Ne.symm (Nat.ne_of_lt I.big'))) (Heap.DictOfH.new s.heap)), rfl, h _ (I.hok.fresh (Nat.le_refl _))⟩
noncomputable def rSetX (K : PySem.W.Frag) (w : World) : TSet := fun x y v H Q => ∃ a ys k b, x = .ref a ∧ y = .ref b ∧ Dx K w H a ys ∧ KeyIn K H k y ∧ ys.length < sizeLine ∧ ∀ u, RelV v u → Q (upd H a (.ext (DL.DictX w a (storedH ys k b u))))
theorem length_storedH {ys : List (PyData × Addr × Value)} {k : PyData} {b : Addr} {u : Value} : (storedH ys k b u).length ≤ ys.length + 1 := by
  unfold storedH
  split
  · rw [List.length_map]
    omega
  · rw [List.length_append]
    simp
theorem pset_dict (hu : X.A.units + 64 < cLine) : PSet X (rSetX X.K X.w) := by
  intro pins s σ H o i v ov iv u Q I ro ri rv h
  obtain ⟨a, ys, k, b, rfl, rfl, hx, hk, hl, q⟩ := h
  cases ro
  cases ri
  obtain ⟨z, sy, dd⟩ := dx_of I hx
  refine wpAny_setItem_heap (hsz := z) (room_x hu) (key_is I hk) dd fun h' dd' hs => ⟨_, ?_, q u rv⟩
  obtain ⟨o', es, ep, ho, _⟩ := id dd'
  refine I.write (x := a) (e := a) (by rw [hx.1]; exact True.intro) (.inl rfl) (fun b q hb z => (hs.2 b hb).trans z) ⟨_, ho⟩ (dx_new X.prog ?_ sy dd')
  have := length_storedH (ys := ys) (k := k) (b := b) (u := u)
  omega
end
end L2
namespace DL
open PySem PySem.Spec L2
mutual
theorem plain_key : ∀ d : D, keyD (toP d) = true → plain d = true
  | .non, h => by simp [toP, keyD] at h
  | .bl b, h => by simp [toP, keyD] at h
  | .int i, _ => by rw [plain.eq_def]
  | .str x, _ => by rw [plain.eq_def]
  | .tup l, h => by
    rw [toP, keyD] at h
    rw [plain]
    exact plains_key l h
  | .lst l, h => by simp [toP, keyD] at h
  | .dct _ _, h => by simp [toP, keyD] at h
  | .exc _, h => by simp [toP, keyD] at h
  | .scr _, h => by simp [toP, keyD] at h
theorem plains_key : ∀ l : List D, keyDs (toPs l) = true → plains l = true
  | [], _ => by rw [plains]
  | d :: l, h => by
    rw [toPs, keyDs, Bool.and_eq_true] at h
    rw [plains, plain_key d h.1, plains_key l h.2]
    rfl
end
section
variable {K : PySem.W.Frag} {mg : Str → Option Value} {ww : World} {H Hh : Hp}
theorem okKey_is {d : D} (h : okKey d = true) : ∃ l, d = .tup l ∧ keyD (toP d) = true ∧ (toP d).depth ≤ 8 := by
  cases d with
  | tup l =>
    unfold okKey at h
    rw [Bool.and_eq_true] at h
    have h2 := of_decide_eq_true h.2
    refine ⟨l, rfl, by rw [toP, keyD]; exact h.1, ?_⟩
    rw [toP, PyData.depth]
    omega
  | _ => cases h
theorem okKey_in {d : D} {v : V} (h : okKey d = true) (q : IsD K mg ww H d v) : KeyIn K H (toP d) v := by
  obtain ⟨l, rfl, h1, h2⟩ := okKey_is h
  refine ⟨h1, h2, ?_, IsD.toP _ _ (plain_key _ h1) q⟩
  rw [IsD] at q
  obtain ⟨a, _, e, _⟩ := q
  exact ⟨a, e⟩
theorem eqv_ok {d e : D} (h1 : okKey d = true) (h2 : okKey e = true) : eqvD d e = decide (toP d = toP e) := by
  obtain ⟨_, _, a, _⟩ := okKey_is h1
  obtain ⟨_, _, b, _⟩ := okKey_is h2
  exact eqv_key _ _ a b
theorem keys_in : ∀ {ks : List D} {ys : List (PyData × Addr × Value)}, ys.map (·.1) = toPs ks → ks.all okKey = true → IsDs K mg ww H ks (ys.map fun y => V.ref y.2.1) → ∀ q ∈ ys, KeyIn K H q.1 (.ref q.2.1)
  | ks, [], _, _, _ => fun q hq => nomatch hq
  | [], y :: ys, e, _, _ => by rw [toPs] at e; cases e
  | k :: ks, y :: ys, e, ha, hi => by
    rw [toPs, List.map_cons] at e
    rw [List.all_cons, Bool.and_eq_true] at ha
    rw [List.map_cons] at hi
    obtain ⟨x, r, e2, h1, h2⟩ := hi.uncons
    cases e2
    have e3 := (List.cons.inj e).1
    intro q hq
    rcases List.mem_cons.mp hq with rfl | hq
    · rw [e3]
      exact okKey_in ha.1 h1
    · exact keys_in (List.cons.inj e).2 ha.2 h2 q hq
theorem atKey_cons_pos {y : PyData × Addr × Value} {ys : List (PyData × Addr × Value)} {k : PyData} (h : y.1 = k) : atKey (y :: ys) k = some y.2 := by
  unfold atKey
  rw [List.find?_cons_of_pos (by exact decide_eq_true h)]
  rfl
theorem atKey_cons_neg {y : PyData × Addr × Value} {ys : List (PyData × Addr × Value)} {k : PyData} (h : ¬ y.1 = k) : atKey (y :: ys) k = atKey ys k := by
  unfold atKey
  rw [List.find?_cons_of_neg (by rw [decide_eq_false h]; simp)]
theorem atKey_any {d : D} (hd : okKey d = true) : ∀ {ks : List D} {ys : List (PyData × Addr × Value)}, ys.map (·.1) = toPs ks → ks.all okKey = true → (atKey ys (toP d)).isSome = ks.any fun y => eqvD y d
  | [], [], _, _ => rfl
  | _ :: _, [], e, _ => by rw [toPs] at e; cases e
  | [], _ :: _, e, _ => by rw [toPs] at e; cases e
  | k :: ks, y :: ys, e, ha => by
    rw [toPs, List.map_cons] at e
    rw [List.all_cons, Bool.and_eq_true] at ha
    have e3 := (List.cons.inj e).1
    rw [List.any_cons, eqv_ok ha.1 hd, ← e3]
    by_cases q : y.1 = toP d
    · rw [atKey_cons_pos q, decide_eq_true q]
      rfl
    · rw [atKey_cons_neg q, decide_eq_false q, Bool.false_or]
      exact atKey_any hd (List.cons.inj e).2 ha.2
def getK (d : D) : List D → List D → Option D
  | k :: ks, v :: vs => if eqvD k d = true then some v else getK d ks vs
  | _, _ => none
theorem atKey_get {d r : D} (hd : okKey d = true) : ∀ {ks vs : List D} {ys : List (PyData × Addr × Value)} {xs : List V}, ys.map (·.1) = toPs ks → ks.all okKey = true → Vals xs (ys.map (·.2.2)) → IsDs K mg ww H vs xs → getK d ks vs = some r → ∃ p v, atKey ys (toP d) = some p ∧ RelV v p.2 ∧ IsD K mg ww H r v
  | [], _, _, _, _, _, _, _, g => by simp [getK] at g
  | _ :: _, [], _, _, _, _, _, _, g => by simp [getK] at g
  | _ :: _, _ :: _, [], _, e, _, _, _, _ => by rw [toPs] at e; cases e
  | k :: ks, v :: vs, y :: ys, xs, e, ha, hv, hi, g => by
    rw [toPs, List.map_cons] at e
    rw [List.all_cons, Bool.and_eq_true] at ha
    rw [List.map_cons] at hv
    obtain ⟨x, r', rfl, h1, h2⟩ := hi.uncons
    have e3 := (List.cons.inj e).1
    rw [getK, eqv_ok ha.1 hd, ← e3] at g
    cases hv with
    | cons hv hvs =>
      by_cases q : y.1 = toP d
      · rw [decide_eq_true q, if_pos rfl] at g
        cases g
        exact ⟨y.2, x, atKey_cons_pos q, hv, h1⟩
      · rw [decide_eq_false q, if_neg (by simp)] at g
        rw [atKey_cons_neg q]
        exact atKey_get hd (List.cons.inj e).2 ha.2 hvs h2 g
theorem Rep.dct {H0 H : Hp} {os : List Addr} {ks vs : List D} {v : V} (h : Rep K mg ww .b H0 os H (.dct ks vs) v) : ∃ p ys xs, v = .ref p ∧ DctO ww (H p) p ks ys ∧ IsDs K mg ww (hide os H) ks (ys.map fun y => V.ref y.2.1) ∧ Vals xs (ys.map (·.2.2)) ∧ IsDs K mg ww (hide os H) vs xs := by
  rcases h with h | ⟨a, h1, h2, h3⟩
  · rw [IsD] at h
    obtain ⟨a, ys, xs, rfl, h1, h2⟩ := h
    exact ⟨a, ys, xs, rfl, h1.same hide_le, h2⟩
  · obtain ⟨ys, xs, h4⟩ := h3
    exact ⟨a, ys, xs, h1, h4⟩
def inK (neg : Bool) (d e : D) : R D := match e with
  | .dct ks _ => if okKey d = true then .ok (.bl (if neg = true then !(ks.any fun y => eqvD y d) else ks.any fun y => eqvD y d)) else .bad
  | _ => .bad
theorem o_inK {neg : Bool} : Op2 K mg ww .d (rInX K ww neg) (inK neg) := by
  intro E os H x y d e Q dm hx hy o
  unfold inK at o
  split at o
  · split at o
    · rename_i hk
      obtain ⟨p, ys, xs, rfl, h1, h2, h3, h4⟩ := hy.dct
      refine ⟨p, ys, toP d, rfl, ⟨h1.1, keys_in h1.2.1 h1.2.2 (IsDs.same hide_le _ _ h2)⟩, okKey_in hk hx.full, ?_⟩
      rw [atKey_any hk h1.2.1 h1.2.2]
      exact o _ H (Same.refl H) rBl
    · exact o.elim
  · exact o.elim
def ixK (e d : D) : R D := match e with
  | .dct ks vs => if okKey d = true then (match getK d ks vs with | some r => .ok r | none => .bad) else .bad
  | _ => .bad
theorem o_ixK : Op2 K mg ww .d (rGetX K ww) ixK := by
  intro E os H x y d e Q dm hx hy o
  unfold ixK at o
  split at o
  · split at o
    · rename_i hk
      split at o
      · rename_i r hr
        obtain ⟨p, ys, xs, rfl, h1, h2, h3, h4⟩ := hx.dct
        obtain ⟨p', v, g1, g2, g3⟩ := atKey_get hk h1.2.1 h1.2.2 h3 h4 hr
        exact ⟨p, ys, toP e, p', v, rfl, ⟨h1.1, keys_in h1.2.1 h1.2.2 (IsDs.same hide_le _ _ h2)⟩, okKey_in hk hy.full, g1, g2, o _ H (Same.refl H) g3⟩
      · exact o.elim
    · exact o.elim
  · exact o.elim
end
section
variable {X : Cx} {K : PySem.W.Frag} {mg : Str → Option Value} {ww : World} {E : XK} {ow : List Bool}
theorem opNotInX (hu : X.A.units + 64 < cLine) (h : X.K = K := by rfl) (hw : X.w = ww := by rfl) : OpR X (compareOp .NotIn) (rInX K ww true) := by
  subst h hw
  exact op_notInX hu
theorem ixDict (hu : X.A.units + 64 < cLine) (h : X.K = K := by rfl) (hw : X.w = ww := by rfl) : IxR X (rGetX K ww) := by
  subst h hw
  exact ix_dict hu
theorem e_dct0 {pos : Pos} (hw : X.w = ww := by rfl) : PE X (.Dict [] [] pos) (tE K mg ww .f E ow (mC (.dct [] []))) := pe_dnewX.mono fun σ H Q ⟨os, ρ, hd, o⟩ => by
  subst hw
  intro p hp
  refine o _ _ (Wv.same_new hp) ⟨p, rfl, hp, [], [], ⟨upd_same, rfl, rfl⟩, IsDs.nil, .nil, IsDs.nil⟩
def setV (d v : D) : List D → List D → List D
  | k :: ks, x :: vs => (if eqvD k d = true then v else x) :: setV d v ks vs
  | _, _ => []
def putD (d v : D) (ks vs : List D) : D := if (ks.any fun y => eqvD y d) = true then .dct ks (setV d v ks vs) else .dct (ks ++ [d]) (vs ++ [v])
theorem toPs_append : ∀ a b : List D, toPs (a ++ b) = toPs a ++ toPs b
  | [], b => by rw [toPs]; rfl
  | x :: a, b => by rw [List.cons_append, toPs, toPs, toPs_append a b]; rfl
theorem set_rel {H : Hp} {d v : D} {z : V} {u : Value} (hd : okKey d = true) (hz : IsD K mg ww H v z) (ru : RelV z u) : ∀ {ks vs : List D} {ys : List (PyData × Addr × Value)} {xs : List V}, ys.map (·.1) = toPs ks → ks.all okKey = true → Vals xs (ys.map (·.2.2)) → IsDs K mg ww H vs xs →
    ∃ xs', Vals xs' ((ys.map (putAt (toP d) u)).map (·.2.2)) ∧ IsDs K mg ww H (setV d v ks vs) xs'
  | [], vs, [], xs, _, _, _, _ => ⟨[], .nil, by rw [setV]; exact IsDs.nil; intros; simp_all⟩
  | _ :: _, _, [], _, e, _, _, _ => by rw [toPs] at e; cases e
  | [], _, _ :: _, _, e, _, _, _ => by rw [toPs] at e; cases e
  | k :: ks, vs, y :: ys, xs, e, ha, hv, hi => by
    rw [toPs, List.map_cons] at e
    rw [List.all_cons, Bool.and_eq_true] at ha
    rw [List.map_cons] at hv
    have e3 := (List.cons.inj e).1
    cases hv with
    | @cons x _ xs0 _ hv hvs =>
      cases vs with
      | nil =>
        have := hi.nil'
        cases this
      | cons w vs =>
        obtain ⟨x', r', ex, h1, h2⟩ := hi.uncons
        cases ex
        obtain ⟨xs', g1, g2⟩ := set_rel hd hz ru (List.cons.inj e).2 ha.2 hvs h2
        rw [setV, eqv_ok ha.1 hd, ← e3, List.map_cons, List.map_cons]
        by_cases q : y.1 = toP d
        · rw [decide_eq_true q, if_pos rfl]
          refine ⟨z :: xs', .cons ?_ g1, IsDs.cons hz g2⟩
          rw [putAt, if_pos q]
          exact ru
        · rw [decide_eq_false q, if_neg (by simp)]
          refine ⟨x :: xs', .cons ?_ g1, IsDs.cons h1 g2⟩
          rw [putAt, if_neg q]
          exact hv
theorem refs_putAt {k : PyData} {u : Value} (ys : List (PyData × Addr × Value)) : (ys.map (putAt k u)).map (fun y => V.ref y.2.1) = ys.map fun y => V.ref y.2.1 := by
  rw [List.map_map]
  refine List.map_congr_left fun y _ => ?_
  show V.ref (putAt k u y).2.1 = _
  unfold putAt
  split <;> rfl
theorem put_obj {H : Hp} {a b : Addr} {d v : D} {z : V} {u : Value} {ks vs : List D} {ys : List (PyData × Addr × Value)} {xs : List V} (hd : okKey d = true) (hk : IsD K mg ww H d (.ref b)) (hz : IsD K mg ww H v z) (ru : RelV z u)
    (e : ys.map (·.1) = toPs ks) (ha : ks.all okKey = true) (hi : IsDs K mg ww H ks (ys.map fun y => V.ref y.2.1)) (hv : Vals xs (ys.map (·.2.2))) (hs : IsDs K mg ww H vs xs) : ObjD K mg ww H a (some (.ext (DictX ww a (storedH ys (toP d) b u)))) (putD d v ks vs) := by
  unfold storedH putD
  rw [atKey_any hd e ha]
  by_cases q : (ks.any fun y => eqvD y d) = true
  · rw [if_pos q, if_pos q]
    obtain ⟨xs', g1, g2⟩ := set_rel hd hz ru e ha hv hs
    exact ⟨_, xs', ⟨rfl, by rw [keys_map_putAt]; exact e, ha⟩, by rw [refs_putAt]; exact hi, g1, g2⟩
  · rw [if_neg q, if_neg q]
    refine ⟨_, xs ++ [z], ⟨rfl, ?_, ?_⟩, ?_, ?_, ?_⟩
    · rw [List.map_append, toPs_append, e]
      rfl
    · rw [List.all_append, ha]
      simp [hd]
    · rw [List.map_append]
      exact hi.append (IsDs.cons hk IsDs.nil)
    · rw [List.map_append]
      exact Paired.snoc hv ru
    · exact hs.append (IsDs.cons hz IsDs.nil)
def sPut (i : Nat) (mk mv : Ev → R D) : Ev → R Fl := fun ρ => match ρ[i]? with
  | some (some (.dct ks vs)) => (mv ρ).bind fun v => (mk ρ).bind fun k => if okKey k = true ∧ ks.length ≤ 100000 then .ok (.nx (ρ.set i (some (putD k v ks vs)))) else .bad
  | _ => .bad
theorem toPs_len : ∀ l : List D, (toPs l).length = l.length
  | [] => by rw [toPs]; rfl
  | x :: l => by rw [toPs, List.length_cons, List.length_cons, toPs_len l]
theorem tab_len {ks : List D} {ys : List (PyData × Addr × Value)} (e : ys.map (·.1) = toPs ks) : ys.length = ks.length := by
  have := congrArg List.length e
  rw [List.length_map, toPs_len] at this
  exact this
theorem s_put {i : Nat} {x : Str} {p1 p2 pos : Pos} {e k : Expr} {mk m : Ev → R D} (hu : X.A.units + 64 < cLine) (he : PE X e (tE K mg ww .d E ow m)) (hk : PE X k (tE K mg ww .d E ow mk)) (ho : ow.getD i false = true := by rfl) (hN : X.N[i]? = some x := by rfl) (hv : Vis X.env.scope x := by first | exact Or.inl rfl | exact Or.inr (Or.inl rfl) | exact Or.inr (Or.inr rfl))
    (hd : (x == ("__debug__" : Str)) = false := by decide) (hcd : (x == ("__classdict__" : Str)) = false := by decide) (hK : X.K = K := by rfl) (hw : X.w = ww := by rfl)
    (ha : ∀ v, assign (.Subscript (.Name x p1) k p2) X.env v = (do
      let ov ← holding [v] (eval (.Name x p1) X.env)
      let iv ← holding [v, ov] (eval k X.env)
      standAt p2
      holding [v, ov, iv] (setItem ov iv v)
      release [v, ov, iv] []) := by intro _; rfl)
    (hs : swapsWithSole [.Subscript (.Name x p1) k p2] e pos.line X.env = pure false := by rfl) (hsw : swappedStores [.Subscript (.Name x p1) k p2] e X.env = pure none := by rfl) (h1 : (assignEach [.Subscript (.Name x p1) k p2] X.env).map (·.2) = [assign (.Subscript (.Name x p1) k p2) X.env] := by rfl) :
    PS X (.Assign [.Subscript (.Name x p1) k p2] e pos) (tS K mg ww ow E (sPut i mk m)) := by
  subst hK hw
  refine (ps_asg he (pg_sub (pe_var hN hv hd hcd) hk (pset_dict hu) ha) hs hsw h1).mono fun Dn σ H ⟨fro, own, ρ, h, o⟩ => ?_
  unfold sPut at o
  split at o
  · rename_i ks vs hi
    refine ⟨own ++ fro, ρ, h.hd, ?_⟩
    have z := outS_bind (md := .d) o
    revert z
    cases m ρ with
    | ok d =>
      intro z v H1 s1 q1
      obtain ⟨d', e', _, q, z⟩ := z v H1 s1 q1
      cases e'
      have h1 := h.same s1
      obtain ⟨a, a1, a2, a3⟩ := h1.hd.own i _ ho hi
      refine ⟨.ref a, a1, own ++ fro, ρ, h1.hd, ?_⟩
      have z' := outS_bind (md := .d) z
      revert z'
      cases mk ρ with
      | ok kd =>
        intro z' kv H2 s2 q2
        obtain ⟨d', e', _, _, zz⟩ := z' kv H2 s2 q2
        cases e'
        split at zz
        · rename_i hok
          have h2 := h1.same s2
          obtain ⟨a', b1, b2, ys, xs, b3, b4, b5, b6⟩ := h2.hd.own i _ ho hi
          rw [a1] at b1
          cases b1
          obtain ⟨b, hb⟩ := (okKey_in hok.1 (IsD.same hide_le _ _ q2)).2.2.1
          subst hb
          refine ⟨a, ys, toP kd, b, rfl, rfl, ⟨b3.1, keys_in b3.2.1 b3.2.2 (IsDs.same hide_le _ _ b4)⟩, okKey_in hok.1 (IsD.same hide_le _ _ q2), ?_, fun u ru => ?_⟩
          · rw [tab_len b3.2.1, sizeLine_eq]
            have := hok.2
            omega
          · refine zz own σ _ ⟨fun c o' hb z => ?_, fun c hb => .inl hb⟩ (h2.write ho hi a1 (put_obj hok.1 q2 (IsD.same (hide_mono s2) _ _ q1) ru b3.2.1 b3.2.2 b4 b5 b6))
            rw [upd_ne fun q => hb (by rw [q]; exact h.mine i a _ ho hi a1)]
            exact z
        · exact zz.elim
      | rse c => exact fun z => z
      | bad => exact fun z => z
    | rse c => exact fun z => z
    | bad => exact fun z => z
  · exact o.elim
end
end DL
namespace L2
open PySem PySem.Spec PyProof.Rows
def RawD (h : Heap) (d : Addr) (es : Array DictEntry) (ep : Nat) : Prop := ∃ o, h.get? d = some o ∧ o.ExactDict ∧ o.data = .dict es ep
section
variable {prog : Program} {w : World} {A : Around} {E : Value → Shared → Prop} {s : Shared} {d it : Addr} {es : Array DictEntry} {ep i : Nat}
theorem RawD.ty (h : RawD s.heap d es ep) : s.TypeIs (.ref d) "dict" := let ⟨o, ho, hc, _⟩ := h; ⟨o, ho, hc.1⟩
theorem raw_iter {Q : Value → Shared → Prop} (hd : (d == sysModules) = false) (hm : RawD s.heap d es ep)
    (hQ : Q (.ref s.heap.objs.size) { s with heap := s.heap.push { cls := .type "dict_keyiterator", data := .fields #[.ref d, .int 0 0, .int es.size 0, .int ep 0] } }) : wpAny (model prog w) A (pyIter (.ref d)) Q E s := by
  have hT := hm.ty
  obtain ⟨o, ho, hc, hdat⟩ := hm
  refine wpAny_pyIter_slot hT F.slot_dict_iter (wpAny_call_entry F.slot_dict_iter hT F.entry_dict_iter ?_ (F.args_dict_iter_1 _))
  unfold Builtin.«dict.__iter__» Builtin.Dict.dictSlotNone
  refine wpAny_bind (wpAny_bind (wpAny_notOrdered_dict hT (wpAny_pure ?_)))
  show wpAny _ _ (Builtin.Dict.showsAll d >>= _) _ _ s
  unfold Builtin.Dict.showsAll
  rw [if_neg (by rw [hd]; exact Bool.false_ne_true)]
  refine wpAny_bind (wpAny_pure (wpAny_bind (wpAny_dictEntries ho hdat (wpAny_bind (wpAny_dictEpoch ho hdat ?_)))))
  refine wpAny_bind (wpAny_newObj_type (wpAny_pure ⟨_, rfl, "dict_keyiterator", _, ⟨_, Heap.get?_push_size _ rfl, rfl⟩, F.slot_dict_keyiterator_next.lookup, ?_⟩))
  simpa [rawInt] using hQ
theorem raw_next {Q : Option Value → Shared → Prop} (hit : s.heap.IsKeyIter it d i es.size ep) (hm : RawD s.heap d es ep) (hi : i < es.size)
    (hQ : ∀ h', h'.IsKeyIter it d (i + 1) es.size ep → Heap.SameBut it s.heap h' → Q (some es[i].key) { s with heap := h' }) : wpAny (model prog w) A (pyNext (.ref it)) Q E s := by
  have hTi := hit.typeIs
  obtain ⟨o, ho, hc, hd⟩ := id hit
  obtain ⟨od, hod, hcd, hdd⟩ := id hm
  unfold pyNext
  refine wpAny_bind (wpAny_attempt (wpAny_callSpecial?_slot (name := Str.ofString "__next__") hTi F.slot_dict_keyiterator_next
    (wpAny_call_entry F.slot_dict_keyiterator_next hTi F.entry_dict_keyiterator_next ?_ (F.args_dict_keyiterator_next_1 _))))
  refine wpAny_bind (wpAny_pure (wpAny_bind (wpAny_bind ?_)))
  first | refine wpAny_bind (wpAny_typeNameOfWhole_keyiter hTi (wpAny_pure ?_)) | refine wpAny_bind (wpAny_typeNameOf_keyiter hTi (wpAny_pure ?_))
  refine wpAny_bind (wpAny_fieldsOf ho hd ?_)
  simp only [show Builtin.Dict_items.ownsTuple "dict_keyiterator" = false from by decide, Bool.false_eq_true, if_false]
  show wpAny _ _ (if (Value.ref d == Value.none) = true then _ else _) _ _ s
  rw [if_neg (show ¬ ((Value.ref d == Value.none) = true) from Bool.false_ne_true)]
  refine wpAny_bind (wpAny_pure (wpAny_bind (wpAny_dictEntries hod hdd ?_)))
  rw [if_neg (by simp)]
  refine wpAny_bind (wpAny_pure (wpAny_bind (wpAny_dictEpoch hod hdd ?_)))
  rw [if_neg (by simp)]
  refine wpAny_pure ?_
  simp only [show ¬ ((i : Int) < 0) from by omega, if_false, Int.toNat_natCast, Array.getElem?_eq_getElem hi]
  refine wpAny_bind ?_
  first | refine wpAny_bind (wpAny_typeNameOfWhole_keyiter hTi (wpAny_pure ?_)) | refine wpAny_bind (wpAny_typeNameOf_keyiter hTi (wpAny_pure ?_))
  refine wpAny_bind (wpAny_isOneOf_keyiter hTi ?_)
  show wpAny _ _ (setField (.ref it) 1 (rawInt ((i : Int) + 1)) >>= _) _ _ s
  refine wpAny_bind (wpAny_setField ho hd (by simp) ?_)
  have hit' : (s.heap.update it (Obj.mapFields (·.setIfInBounds 1 (rawInt ((i : Int) + 1))))).IsKeyIter it d (i + 1) es.size ep :=
    ⟨_, Heap.get?_update_self _ ho (Obj.isFreed_of_fields (Obj.data_mapFields hd _)), (Obj.cls_mapFields ..).trans hc, by rw [Obj.data_mapFields hd]; simp [rawInt]⟩
  refine wpAny_bind (wpAny_holding (wpAny_bind (wpAny_isOneOf_keyiter (s := { s with heap := s.heap.update it (Obj.mapFields (·.setIfInBounds 1 (rawInt ((i : Int) + 1)))) }) hit'.typeIs ?_)))
  show wpAny _ _ (pure es[i].key) _ _ _
  exact wpAny_pure (wpAny_pure ⟨_, rfl, wpAny_pure (hQ _ hit' (Heap.SameBut.update ..))⟩)
theorem raw_end {Q : Option Value → Shared → Prop} (hh : A.handled = none) (hit : s.heap.IsKeyIter it d i es.size ep) (hm : RawD s.heap d es ep) (hi : es.size ≤ i)
    (hQ : ∀ h', Heap.ExtBut it s.heap h' → Q none { s with heap := h' }) : wpAny (model prog w) A (pyNext (.ref it)) Q E s := by
  have hTi := hit.typeIs
  obtain ⟨o, ho, hc, hd⟩ := id hit
  obtain ⟨od, hod, hcd, hdd⟩ := id hm
  unfold pyNext
  refine wpAny_bind (wpAny_attempt (wpAny_callSpecial?_slot (name := Str.ofString "__next__") hTi F.slot_dict_keyiterator_next
    (wpAny_call_entry F.slot_dict_keyiterator_next hTi F.entry_dict_keyiterator_next ?_ (F.args_dict_keyiterator_next_1 _))))
  refine wpAny_bind (wpAny_pure (wpAny_bind (wpAny_bind ?_)))
  first | refine wpAny_bind (wpAny_typeNameOfWhole_keyiter hTi (wpAny_pure ?_)) | refine wpAny_bind (wpAny_typeNameOf_keyiter hTi (wpAny_pure ?_))
  refine wpAny_bind (wpAny_fieldsOf ho hd ?_)
  simp only [show Builtin.Dict_items.ownsTuple "dict_keyiterator" = false from by decide, Bool.false_eq_true, if_false]
  show wpAny _ _ (if (Value.ref d == Value.none) = true then _ else _) _ _ s
  rw [if_neg (show ¬ ((Value.ref d == Value.none) = true) from Bool.false_ne_true)]
  refine wpAny_bind (wpAny_pure (wpAny_bind (wpAny_dictEntries hod hdd ?_)))
  rw [if_neg (by simp)]
  refine wpAny_bind (wpAny_pure (wpAny_bind (wpAny_dictEpoch hod hdd ?_)))
  rw [if_neg (by simp)]
  refine wpAny_pure ?_
  simp only [show ¬ ((i : Int) < 0) from by omega, if_false, Int.toNat_natCast, Array.getElem?_eq_none hi]
  refine wpAny_bind ?_
  first | refine wpAny_bind (wpAny_typeNameOfWhole_keyiter hTi (wpAny_pure ?_)) | refine wpAny_bind (wpAny_typeNameOf_keyiter hTi (wpAny_pure ?_))
  show wpAny _ _ (setField (.ref it) 0 .none >>= _) _ _ s
  refine wpAny_bind (wpAny_setField ho hd (by simp) ?_)
  show wpAny _ _ (newExc (.type "StopIteration") [] >>= _) _ _ _
  refine wpAny_bind ?_
  simp only [newExc, newTuple]
  refine wpAny_bind (wpAny_newObj_type ?_ (by size_fits))
  refine wpAny_bind (m := firstArgMember _ _) (wpAny_of_eq (a := Value.none) (by first | rfl | (simp only [firstArgMember]; rfl)) ?_)
  refine wpAny_newObj_type ?_ (by size_fits)
  simp only [raiseNew]
  refine wpAny_bind (wpAny_handled ?_)
  rw [show A.in1.handled = none from hh]
  refine wpAny_bind (wpAny_pure (wpAny_throw ?_))
  refine wpAny_bind (wpAny_isInstance (T := "StopIteration") (b := true) ⟨_, Heap.get?_push_size _ rfl, rfl⟩ isSubtype_stop ?_)
  exact wpAny_pure (hQ _ (((Heap.SameBut.update ..).extBut.push _).push _))
theorem raw_walks (hh : A.handled = none) (I d : Addr) (hne : d ≠ I) (es : Array DictEntry) (ep : Nat) :
    Walks prog w A I [I, d] [I] es.size (fun i v => ∃ e, es[i]? = some e ∧ v = e.key) (fun i h => h.IsKeyIter I d i es.size ep ∧ RawD h d es ep) where
  sub := fun b hb => by simp at hb; simp [hb]
  frame := fun _ _ _ st hk => ⟨st.1.at fun o e => hk I (by simp) o e, let ⟨o, ho, r⟩ := st.2; ⟨o, hk d (by simp) o ho, r⟩⟩
  item := fun i s Q E hi st hQ => raw_next st.1 st.2 hi fun h' hit' hs' =>
    hQ _ h' s.toks ⟨es[i], by simp [hi], rfl⟩ ⟨hit', let ⟨o, ho, r⟩ := st.2; ⟨o, hs'.extBut d o hne ho, r⟩⟩ fun b o hb e => hs'.extBut b o (fun h => hb (by simp [h])) e
  done := fun s Q E st hQ => raw_end hh st.1 st.2 (Nat.le_refl _) fun h' he' => hQ h' s.toks fun b o hb e => he' b o (fun h => hb (by simp [h])) e
  self := fun _ _ _ _ st hQ => wpAny_pyIter_keyiter st.1 hQ
end
section
variable {prog : Program} {w : World} {A : Around} {E : Value → Shared → Prop} {s : Shared} {d : Addr} {es : Array DictEntry} {ep : Nat}
theorem raw_hint {Q : Bool → Shared → Prop} (hm : RawD s.heap d es ep) (h : Q false s) : wpAny (model prog w) A (Builtin.List.listLengthHint (.ref d)) Q E s := by
  unfold Builtin.List.listLengthHint
  refine wpAny_bind (wpAny_specialOf hm.ty F.slot_dict_len.lookup ?_)
  generalize hid : ("dict.__len__" : String) = id0
  wp_delta
  rw [show splitId id0 = some ("dict", "__len__") from by subst hid; decide +kernel]
  subst hid
  refine wpAny_bind (wpAny_isInstance (T := "dict") (b := true) hm.ty (by rw [isSubtype_type]; kernel_rfl) ?_)
  refine wpAny_ite_split (fun hab => absurd hab (by decide)) (fun _ => ?_)
  refine wpAny_ite_split (fun _ => ?_) (fun hab => absurd (by decide +kernel) hab)
  refine wpAny_bind (wpAny_typeOf hm.ty ?_)
  exact wpAny_pure h
theorem raw_extend {R : Result → Shared → Prop} (hh : A.handled = none) (hy : (d == sysModules) = false) (hm : RawD s.heap d es ep) (hlen : es.size ≤ sizeLine) (S : Addr) (res : Value) (c₀ : Nat) (hS : s.heap.get? S = some { cls := .type "list", data := .seq #[] c₀ })
    (hR : ∀ h' tk acc' c', (∀ b o, b ≠ S → s.heap.get? b = some o → h'.get? b = some o) → h'.get? S = some { cls := .type "list", dict := none, data := .seq acc' c', slots := #[] } →
      ItemsOf (fun i v => ∃ e, es[i]? = some e ∧ v = e.key) acc' es.size → R (.ok (.ret res)) { s with heap := h', toks := tk }) :
    wpAny (model prog w) A.in1 (Builtin.List.listExtendWith (.ref S) (.ref d) res)
      (fun fin s' => match fin with | .done f => R (.ok f) s' | .again c' => c'.quiet = true ∧ codeAny (model prog w) A c' R s') (fun e s' => R (.error e) s') s := by
  obtain ⟨od, hod, hcd, hdd⟩ := id hm
  have hSr : S ≠ d := fun e => by
    rw [e, hod] at hS
    cases hS
    cases hdd
  have hSlt : S < s.heap.objs.size := Heap.lt_size hS
  have hdlt : d < s.heap.objs.size := Heap.lt_size hod
  have hSf : S ∉ [s.heap.objs.size, d] := fun hx => by
    simp only [List.mem_cons, List.not_mem_nil, or_false] at hx
    rcases hx with e | e
    · exact Nat.ne_of_lt hSlt e
    · exact hSr e
  have W := (raw_walks (prog := prog) (w := w) (A := A.in1) hh s.heap.objs.size d (Nat.ne_of_lt hdlt) es ep).toS
  unfold Builtin.List.listExtendWith
  refine wpAny_bind (wpAny_typeOf (T := "dict") hm.ty ?_)
  have h1 : Builtin.List.listSameRef (.ref S) (.ref d) = false := by simp [Builtin.List.listSameRef, hSr]
  have h2 : (Value.type "dict" == Value.type "list") = false := by decide
  have h3 : (Value.type "dict" == Value.type "tuple") = false := by decide
  simp only [h1, h2, h3, Bool.or_false, Bool.false_eq_true, if_false]
  refine wpAny_bind (raw_iter hy hm ?_)
  have hm₁ : RawD (s.heap.push { cls := .type "dict_keyiterator", data := .fields #[.ref d, .int 0 0, .int es.size 0, .int ep 0] }) d es ep := ⟨od, Heap.get?_push_of_some _ hod, hcd, hdd⟩
  refine wpAny_bind (wpAny_holding (raw_hint hm₁ ?_))
  have hit₁ : (s.heap.push { cls := .type "dict_keyiterator", data := .fields #[.ref d, .int 0 0, .int es.size 0, .int ep 0] }).IsKeyIter s.heap.objs.size d 0 es.size ep := ⟨_, Heap.get?_push_size _ rfl, rfl, rfl⟩
  have hS₁ := Heap.get?_push_of_some { cls := .type "dict_keyiterator", data := .fields #[.ref d, .int 0 0, .int es.size 0, .int ep 0] } hS
  have hS₂ := Heap.get?_update_self (Obj.mapSeq (·.push Value.none)) hS₁ rfl
  have hS₃ := Heap.get?_update_self (Obj.mapSeq (·.pop)) hS₂ rfl
  refine wpAny_ite_split (fun _ => ?_) (fun hab => absurd (by decide +kernel) hab)
  refine wpAny_bind (wpAny_rule (wpAny_bind ?_))
  show wpAny _ _ (updateSeq S (·.push .none) >>= fun _ => updateSeq S (·.pop)) _ _ _
  refine wpAny_bind (wpAny_updateSeq hS₁ rfl (wpAny_updateSeq (hz := by seq_fits) hS₂ rfl (wpAny_pure ⟨plainId_quiet F.plain_extend_loop _, ?_⟩)))
  have oth : ∀ b o, b ≠ S → (s.heap.push { cls := .type "dict_keyiterator", data := .fields #[.ref d, .int 0 0, .int es.size 0, .int ep 0] }).get? b = some o → (((s.heap.push { cls := .type "dict_keyiterator", data := .fields #[.ref d, .int 0 0, .int es.size 0, .int ep 0] }).update S (Obj.mapSeq (·.push Value.none))).update S (Obj.mapSeq (·.pop))).get? b = some o :=
    fun b o hb e => (Heap.get?_update_other _ _ (Ne.symm hb)).trans ((Heap.get?_update_other _ _ (Ne.symm hb)).trans e)
  have hit₂ : (((s.heap.push { cls := .type "dict_keyiterator", data := .fields #[.ref d, .int 0 0, .int es.size 0, .int ep 0] }).update S (Obj.mapSeq (·.push Value.none))).update S (Obj.mapSeq (·.pop))).IsKeyIter s.heap.objs.size d 0 es.size ep := hit₁.at fun o e => oth _ _ (Ne.symm (Nat.ne_of_lt hSlt)) e
  have hm₂ : RawD (((s.heap.push { cls := .type "dict_keyiterator", data := .fields #[.ref d, .int 0 0, .int es.size 0, .int ep 0] }).update S (Obj.mapSeq (·.push Value.none))).update S (Obj.mapSeq (·.pop))) d es ep := ⟨od, oth _ _ (Ne.symm hSr) (Heap.get?_push_of_some _ hod), hcd, hdd⟩
  refine codeAny_extend_loopS W hlen S hSf res es.size 0 _ #[] _ rfl (Nat.zero_le _) ⟨hit₂, hm₂⟩ hS₃ (ItemsOf.nil _) fun s' acc' c' hmv hS' hacc => ?_
  rw [Moved.eq_with hmv]
  refine hR s'.heap s'.toks acc' c' (fun b o hb e => hmv.heap b o (fun hmem => ?_) (oth b o hb (Heap.get?_push_of_some _ e))) hS' hacc
  rcases List.mem_cons.mp hmem with e' | hmem
  · exact hb e'
  · exact absurd (Heap.lt_size e) (by rw [List.mem_singleton.mp hmem]; exact Nat.lt_irrefl _)
theorem raw_list {Q : Value → Shared → Prop} (hh : A.handled = none) (hy : (d == sysModules) = false) (hm : RawD s.heap d es ep) (hlen : es.size ≤ sizeLine)
    (hQ : ∀ h' tk acc' c', (∀ b o, s.heap.get? b = some o → h'.get? b = some o) → h'.get? s.heap.objs.size = some { cls := .type "list", dict := none, data := .seq acc' c', slots := #[] } →
      ItemsOf (fun i v => ∃ e, es[i]? = some e ∧ v = e.key) acc' es.size → Q (.ref s.heap.objs.size) { s with heap := h', toks := tk }) : wpAny (model prog w) A (call (.type "list") [.ref d]) Q E s := by
  obtain ⟨od, hod, hcd, hdd⟩ := id hm
  refine callType_codes (Q₁ := fun obj s₁ => obj = .ref s.heap.objs.size ∧ s₁ = { s with heap := s.heap.push { cls := .type "list", data := .seq #[] } }) F.called_list (F.typeCall_list_1 _) F.entry_list_init
    (code_list_new _ ⟨rfl, rfl⟩) fun obj s₁ h₁ => ?_
  obtain ⟨rfl, rfl⟩ := h₁
  have hS : (s.heap.push { cls := .type "list", data := .seq #[] }).get? s.heap.objs.size = some { cls := .type "list", data := .seq #[] } := Heap.get?_push_size _ rfl
  refine ⟨⟨_, hS, rfl⟩, F.args_list_init_2 _ _, ?_⟩
  show wpAny _ _ (do let old ← Builtin.List.listItems (.ref s.heap.objs.size); Builtin.List.listUpdate (.ref s.heap.objs.size) (fun _ => #[]); letGo old.toList.reverse; Builtin.List.listExtendWith (.ref s.heap.objs.size) (.ref d) .none) _ _ _
  refine wpAny_bind ?_
  unfold Builtin.List.listItems
  refine wpAny_bind (wpAny_seqItems hS rfl (wpAny_pure ?_))
  show wpAny _ _ (updateSeq s.heap.objs.size (fun _ => #[]) >>= fun _ => letGo (#[] : Array Value).toList.reverse >>= fun _ => Builtin.List.listExtendWith (.ref s.heap.objs.size) (.ref d) .none) _ _ _
  refine wpAny_bind (wpAny_updateSeq hS rfl ?_)
  have hS₂ := Heap.get?_update_self (Obj.mapSeq (fun _ => (#[] : Array Value))) hS rfl
  have oth : ∀ b o, b ≠ s.heap.objs.size → (s.heap.push { cls := .type "list", data := .seq #[] }).get? b = some o → ((s.heap.push { cls := .type "list", data := .seq #[] }).update s.heap.objs.size (Obj.mapSeq (fun _ => (#[] : Array Value)))).get? b = some o :=
    fun b o hb e => (Heap.get?_update_other _ _ (Ne.symm hb)).trans e
  refine wpAny_bind (wpAny_letGo ?_)
  refine raw_extend (A := A.in1) hh hy ⟨od, oth d _ (Nat.ne_of_lt (Heap.lt_size hod)) (Heap.get?_push_of_some _ hod), hcd, hdd⟩ hlen _ .none _ hS₂ fun h' tk acc' c' hk hS' hacc => ?_
  exact ⟨rfl, hQ h' tk acc' c' (fun b o e => hk b o (Nat.ne_of_lt (Heap.lt_size e)) (oth b o (Nat.ne_of_lt (Heap.lt_size e)) (Heap.get?_push_of_some _ e))) hS' hacc⟩
end
end L2
namespace L2
open PySem PySem.Spec PyProof.Rows
section
variable {X : Cx}
theorem keys_vals {w : World} : ∀ {ys : List (PyData × Addr × Value)} {es : List DictEntry} {its : List Value}, es = ys.map (fun x => (⟨hashD w x.1, .ref x.2.1, x.2.2⟩ : DictEntry)) → its = es.map (·.key) → Vals (ys.map fun y => V.ref y.2.1) its
  | [], _, _, e1, e2 => by
    subst e1
    subst e2
    exact .nil
  | y :: ys, _, _, e1, e2 => by
    subst e1
    subst e2
    rw [List.map_cons, List.map_cons, List.map_cons]
    exact .cons rfl (keys_vals rfl rfl)
theorem items_keys {es : Array DictEntry} {acc : Array Value} (h : ItemsOf (fun i v => ∃ e, es[i]? = some e ∧ v = e.key) acc es.size) : acc.toList = es.toList.map (·.key) := by
  refine List.ext_getElem? fun j => ?_
  rw [List.getElem?_map, Array.getElem?_toList, Array.getElem?_toList]
  cases hj : acc[j]? with
  | some v =>
    obtain ⟨e, he, hv⟩ := h.2 j v hj
    rw [he, hv]
    rfl
  | none =>
    have hl : acc.size ≤ j := by
      rcases Nat.lt_or_ge j acc.size with q | q
      · rw [Array.getElem?_eq_getElem q] at hj
        cases hj
      · exact q
    rw [Array.getElem?_eq_none (by rw [← h.1]; exact hl)]
    rfl
theorem dx_raw {pins : List (Addr × Obj)} {σ : St} {H : Hp} {s : Shared} {a : Addr} {ys : List (PyData × Addr × Value)} (I : Inv X pins σ H s) (h : Dx X.K X.w H a ys) :
    ys.length ≤ sizeLine ∧ (a == sysModules) = false ∧ ∃ es ep, RawD s.heap a es ep ∧ es.toList = ys.map (fun x => (⟨hashD X.w x.1, .ref x.2.1, x.2.2⟩ : DictEntry)) := by
  obtain ⟨⟨z, y, o, es, ep, h1, h2, h3, h4, h5⟩, _, _⟩ := (show ObjOk X.prog X.w H s.heap a (.ext (DL.DictX X.w a ys)) from I.hok a _ h.1)
  exact ⟨z, y, es, ep, ⟨o, h1, h2, h3⟩, h4⟩
def rListX (K : PySem.W.Frag) (w : World) : List V → Hp → VK → Prop := fun xs H Q => ∃ a ys, xs = [.ref a] ∧ Dx K w H a ys ∧ ∀ l, H l = none → Q (.ref l) (upd H l (.lst (ys.map fun y => V.ref y.2.1)))
theorem call_list_dict (hc : X.calm = true) : CallR X (.type "list") (rListX X.K X.w) := by
  intro pins s σ H xs us Q I r h
  obtain ⟨a, ys, rfl, hx, q⟩ := h
  obtain ⟨u, rfl, rx⟩ := vals1 r
  cases rx
  obtain ⟨z, sy, es, ep, hr, he⟩ := dx_raw I hx
  have hsz : es.size = ys.length := by rw [← Array.length_toList, he, List.length_map]
  refine raw_list (I.ok.hd hc) sy hr (by rw [hsz]; exact z) fun h' tk acc' c' kp e hacc => ?_
  refine ⟨.ref s.heap.objs.size, _, I.laid (t' := tk) kp (Nat.le_refl _) (show ObjOk X.prog X.w _ h' _ (.lst (ys.map fun y => V.ref y.2.1)) from ⟨by rw [List.length_map]; exact z, acc'.toList, c', keys_vals he (items_keys hacc), by rw [Array.toArray_toList]; exact e⟩), rfl, q _ (I.hok.fresh (Nat.le_refl _))⟩
theorem call_len_dictX : CallR X (.builtin "len") (fun xs H Q => ∃ a ys, xs = [V.ref a] ∧ Dx X.K X.w H a ys ∧ Q (.int ys.length) H) := by
  intro pins s σ H xs us Q I r h
  obtain ⟨a, ys, rfl, hx, q⟩ := h
  obtain ⟨u, rfl, rx⟩ := vals1 r
  cases rx
  obtain ⟨z, sy, es, ep, hr, he⟩ := dx_raw I hx
  have hsz : es.size = ys.length := by rw [← Array.length_toList, he, List.length_map]
  have hz : ys.length < 2 ^ 63 := by
    rw [sizeLine_eq] at z
    omega
  have hT := hr.ty
  obtain ⟨o, ho, hc, hdat⟩ := hr
  refine call_len_slot (n := (ys.length : Int)) hT PySem.F.slot_dict_len (fun Q' hq => wpAny_call_entry PySem.F.slot_dict_len hT PySem.F.entry_dict_len ?_ (PySem.F.args_dict_len_1 _)) (by omega) (by omega) ⟨.int ys.length, H, I.tok _, ⟨_, rfl⟩, q⟩
  show wpAny _ _ (dictSize a >>= _) _ _ s
  unfold dictSize
  refine wpAny_bind (wpAny_bind (wpAny_dictEntries ho hdat (wpAny_pure ?_)))
  show wpAny _ _ (Builtin.Dict.pendingCount a >>= _) _ _ s
  refine wpAny_bind (wpAny_pendingCount_other sy ?_)
  refine wpAny_ret_mkInt ?_
  rw [hsz]
  have e0 : ((ys.length : Int) + ((0 : Nat) : Int)) = ys.length := by simp
  rw [e0]
  exact hq
end
end L2
namespace DL
open PySem PySem.Spec L2
section
variable {X : Cx} {K : PySem.W.Frag} {mg : Str → Option Value} {ww : World} {E : XK} {ow : List Bool}
theorem callListX (hc : X.calm = true := by rfl) (h : X.K = K := by rfl) (hw : X.w = ww := by rfl) : CallR X (.type "list") (rListX K ww) := by
  subst h hw
  exact call_list_dict hc
def keysD : List D → R D
  | [.dct ks _] => .ok (.lst ks)
  | _ => .bad
theorem o_keys : OpN K mg ww .f (rListX K ww) keysD := by
  intro E os H xs ds Q dm hp o
  unfold keysD at o
  split at o
  · obtain ⟨x, rfl, hx⟩ := pair1 hp
    obtain ⟨p, ys, xs, rfl, h1, h2, h3, h4⟩ := hx.dct
    exact ⟨p, ys, rfl, ⟨h1.1, keys_in h1.2.1 h1.2.2 (IsDs.same hide_le _ _ h2)⟩, fun l hl => o _ _ (Wv.same_new hl) (new_f hl h2)⟩
  · exact o.elim
def rLenX (K : PySem.W.Frag) (w : World) : List V → Hp → VK → Prop := fun xs H Q => ∃ a ys, xs = [V.ref a] ∧ Dx K w H a ys ∧ Q (.int ys.length) H
theorem callLenX (h : X.K = K := by rfl) (hw : X.w = ww := by rfl) : CallR X (.builtin "len") (rLenX K ww) := by
  subst h hw
  exact call_len_dictX
def lenK : List D → R D
  | [.dct ks _] => .ok (.int ks.length)
  | _ => .bad
theorem o_lenK : OpN K mg ww .d (rLenX K ww) lenK := by
  intro E os H xs ds Q dm hp o
  unfold lenK at o
  split at o
  · obtain ⟨x, rfl, hx⟩ := pair1 hp
    obtain ⟨p, ys, xs, rfl, h1, h2, h3, h4⟩ := hx.dct
    refine ⟨p, ys, rfl, ⟨h1.1, keys_in h1.2.1 h1.2.2 (IsDs.same hide_le _ _ h2)⟩, ?_⟩
    rw [tab_len h1.2.1]
    exact o _ H (Same.refl H) rInt
  · exact o.elim
end
end DL
namespace DL
open PySem PySem.Spec L2
section
variable {X : Cx} {K : PySem.W.Frag} {mg : Str → Option Value} {ww : World} {E : XK} {ow : List Bool} {p5 p6 p7 pos : Pos}
end
end DL
namespace L2
open PySem PySem.Spec PyProof.Rows
end L2
namespace DL
open PySem PySem.Spec L2
section
variable {X : Cx} {K : PySem.W.Frag} {mg : Str → Option Value} {ww : World}
end
end DL
namespace DL
open PySem PySem.Spec L2
section
variable {X : Cx} {K : PySem.W.Frag} {mg : Str → Option Value} {ww : World} {E : XK}
def InL (K : PySem.W.Frag) (mg : Str → Option Value) (ww : World) (Hh H : Hp) : List (List D) → List Addr → Prop := Paired fun l b => ∃ zs, H b = some (.lst zs) ∧ IsDs K mg ww Hh l zs
structure Lay (K : PySem.W.Frag) (mg : Str → Option Value) (ww : World) (fro bs : List Addr) (a : Addr) (H : Hp) (ks : List D) (ls : List (List D)) : Prop where
  dct : ∃ ys, DctO ww (H a) a ks ys ∧ IsDs K mg ww (hide (a :: (bs ++ fro)) H) ks (ys.map fun y => V.ref y.2.1) ∧ Vals (bs.map V.ref) (ys.map (·.2.2))
  lsts : InL K mg ww (hide (a :: (bs ++ fro)) H) H ls bs
  nd : (a :: bs).Nodup
  off : ∀ x ∈ a :: bs, x ∉ fro
  dom : ∀ x ∈ a :: (bs ++ fro), H x ≠ none
theorem InL.imp {Hh H Hh' H' : Hp} (s : Same Hh Hh') : ∀ {ls : List (List D)} {bs : List Addr}, (∀ b ∈ bs, H' b = H b) → InL K mg ww Hh H ls bs → InL K mg ww Hh' H' ls bs
  | _, _, _, .nil => .nil
  | _, _, hk, .cons h t => by
    obtain ⟨zs, h1, h2⟩ := h
    exact .cons ⟨zs, (hk _ List.mem_cons_self).trans h1, IsDs.same s _ _ h2⟩ (InL.imp s (fun b hb => hk b (List.mem_cons_of_mem _ hb)) t)
theorem InL.len {Hh H : Hp} {ls : List (List D)} {bs : List Addr} (h : InL K mg ww Hh H ls bs) : ls.length = bs.length := Paired.length h
theorem InL.set {Hh H : Hp} {vs : V} {t : D} : ∀ {ls : List (List D)} {bs : List Addr} {i : Nat} {b : Addr} {l : List D}, InL K mg ww Hh H ls bs → bs.Nodup → bs[i]? = some b → ls[i]? = some l → IsD K mg ww Hh t vs →
    ∃ zs, H b = some (.lst zs) ∧ zs.length = l.length ∧ InL K mg ww Hh (upd H b (.lst (zs ++ [vs]))) (ls.set i (l ++ [t])) bs
  | _, _, i, b, l, .nil, _, h1, _, _ => by simp at h1
  | _, _, 0, b, l, .cons h q, hn, h1, h2, ht => by
    simp at h1 h2
    subst h1 h2
    obtain ⟨zs, z1, z2⟩ := h
    rw [List.nodup_cons] at hn
    refine ⟨zs, z1, z2.len, ?_⟩
    rw [List.set_cons_zero]
    exact .cons ⟨_, upd_same, z2.append (IsDs.cons ht IsDs.nil)⟩ (InL.imp (fun _ _ z => z) (fun c hc => upd_ne fun e => hn.1 (by rw [← e]; exact hc)) q)
  | _, _, i + 1, b, l, .cons (a := l0) (b := b0) h q, hn, h1, h2, ht => by
    rw [List.nodup_cons] at hn
    rw [List.getElem?_cons_succ] at h1 h2
    obtain ⟨zs, z1, z2, z3⟩ := InL.set q hn.2 h1 h2 ht
    refine ⟨zs, z1, z2, ?_⟩
    rw [List.set_cons_succ]
    refine .cons ?_ z3
    obtain ⟨ws, w1, w2⟩ := h
    exact ⟨ws, by rw [upd_ne fun e => hn.1 (by rw [e]; exact List.mem_of_getElem? h1)]; exact w1, w2⟩
theorem Lay.same {fro bs : List Addr} {a : Addr} {H H' : Hp} {ks : List D} {ls : List (List D)} (h : Lay K mg ww fro bs a H ks ls) (s : Same H H') : Lay K mg ww fro bs a H' ks ls := by
  obtain ⟨ys, h1, h2, h3⟩ := h.dct
  have hs := hide_mono (os := a :: (bs ++ fro)) s
  refine ⟨⟨ys, h1.same s, IsDs.same hs _ _ h2, h3⟩, InL.imp hs (fun b hb => ?_) h.lsts, h.nd, h.off, fun x hx => ?_⟩
  · cases q : H b with
    | none => exact absurd q (h.dom b (List.mem_cons_of_mem _ (List.mem_append_left _ hb)))
    | some o => exact s _ _ q
  · cases q : H x with
    | none => exact absurd q (h.dom x hx)
    | some o => rw [s _ _ q]; simp
theorem Lay.put {fro bs : List Addr} {a b p : Addr} {H : Hp} {ks : List D} {ls : List (List D)} {k : D} {ys : List (PyData × Addr × Value)} (h : Lay K mg ww fro bs a H ks ls) (h1 : DctO ww (H a) a ks ys) (h2 : IsDs K mg ww (hide (a :: (bs ++ fro)) H) ks (ys.map fun y => V.ref y.2.1)) (h3 : Vals (bs.map V.ref) (ys.map (·.2.2)))
    (hk : okKey k = true) (hb : IsD K mg ww (hide (a :: (bs ++ fro)) H) k (.ref b)) (hp : H p = none) (hn : (ks.any fun y => eqvD y k) = false) :
    Lay K mg ww fro (bs ++ [p]) a (upd (upd H p (.lst [])) a (.ext (DictX ww a (storedH ys (toP k) b (.ref p))))) (ks ++ [k]) (ls ++ [[]]) := by
  have pa : p ≠ a := fun e => h.dom a List.mem_cons_self (by rw [← e]; exact hp)
  have pb : p ∉ bs := fun e => h.dom p (List.mem_cons_of_mem _ (List.mem_append_left _ e)) hp
  have pf : p ∉ fro := fun e => h.dom p (List.mem_cons_of_mem _ (List.mem_append_right _ e)) hp
  have hnd := List.nodup_cons.mp h.nd
  have sm : Same (hide (a :: (bs ++ fro)) H) (hide (a :: (bs ++ [p] ++ fro)) (upd (upd H p (.lst [])) a (.ext (DictX ww a (storedH ys (toP k) b (.ref p)))))) := fun c oc z => by
    obtain ⟨z1, z2⟩ := hide_some.mp z
    have cp : c ≠ p := fun e => by rw [e, hp] at z2; cases z2
    have ca : c ≠ a := fun e => z1 (by rw [e]; exact List.mem_cons_self)
    refine hide_some.mpr ⟨fun q => ?_, ?_⟩
    · simp only [List.mem_cons, List.mem_append, List.not_mem_nil, or_false] at q z1
      rcases q with q | (q | q) | q
      · exact ca q
      · exact z1 (.inr (.inl q))
      · exact cp q
      · exact z1 (.inr (.inr q))
    · rw [upd_ne ca, upd_ne cp]
      exact z2
  have hst : storedH ys (toP k) b (.ref p) = ys ++ [(toP k, b, .ref p)] := by
    refine storedH_new ?_ _ _
    have := atKey_any hk h1.2.1 h1.2.2
    rw [hn] at this
    cases q : atKey ys (toP k) with
    | none => rfl
    | some x =>
      rw [q] at this
      cases this
  refine ⟨⟨ys ++ [(toP k, b, .ref p)], ⟨by rw [← hst]; exact upd_same, ?_, ?_⟩, ?_, ?_⟩, ?_, ?_, ?_, ?_⟩
  · rw [List.map_append, toPs_append, h1.2.1]
    rfl
  · rw [List.all_append, h1.2.2]
    simp [hk]
  · rw [List.map_append]
    exact (IsDs.same sm _ _ h2).append (IsDs.cons (IsD.same sm _ _ hb) IsDs.nil)
  · rw [List.map_append, List.map_append]
    exact Paired.snoc h3 rfl
  · refine Paired.snoc (InL.imp sm (fun c hc => ?_) h.lsts) ⟨[], ?_, IsDs.nil⟩
    · rw [upd_ne fun e => hnd.1 (by rw [← e]; exact hc), upd_ne fun e => pb (by rw [← e]; exact hc)]
    · rw [upd_ne pa, upd_same]
  · rw [List.nodup_cons, List.nodup_append]
    refine ⟨fun q => ?_, hnd.2, by simp, fun x hx y hy => ?_⟩
    · rcases List.mem_append.mp q with q | q
      · exact hnd.1 q
      · exact pa (List.mem_singleton.mp q).symm
    · rw [List.mem_singleton.mp hy]
      exact fun e => pb (by rw [← e]; exact hx)
  · intro x hx
    simp only [List.mem_cons, List.mem_append, List.not_mem_nil, or_false] at hx
    rcases hx with rfl | hx | rfl
    · exact h.off _ List.mem_cons_self
    · exact h.off _ (List.mem_cons_of_mem _ hx)
    · exact pf
  · intro x hx
    by_cases xa : x = a
    · rw [xa, upd_same]
      simp
    · rw [upd_ne xa]
      by_cases xp : x = p
      · rw [xp, upd_same]
        simp
      · rw [upd_ne xp]
        refine h.dom x ?_
        simp only [List.mem_cons, List.mem_append, List.not_mem_nil, or_false] at hx ⊢
        rcases hx with hx | (hx | hx) | hx
        · exact .inl hx
        · exact .inr (.inl hx)
        · exact absurd hx xp
        · exact .inr (.inr hx)
theorem InL.free {fro : List Addr} {Hh H : Hp} (s : Same Hh (hide fro H)) : ∀ {ls : List (List D)} {bs : List Addr}, (∀ b ∈ bs, b ∉ fro) → InL K mg ww Hh H ls bs → IsDs K mg ww (hide fro H) (ls.map D.lst) (bs.map V.ref)
  | _, _, _, .nil => IsDs.nil
  | _, _, hk, .cons h t => by
    obtain ⟨zs, h1, h2⟩ := h
    rw [List.map_cons, List.map_cons]
    refine IsDs.cons ?_ (InL.free s (fun b hb => hk b (List.mem_cons_of_mem _ hb)) t)
    rw [IsD]
    exact ⟨_, zs, rfl, hide_some.mpr ⟨hk _ List.mem_cons_self, h1⟩, IsDs.same s _ _ h2⟩
theorem Lay.free {fro bs : List Addr} {a : Addr} {H : Hp} {ks : List D} {ls : List (List D)} (h : Lay K mg ww fro bs a H ks ls) : IsD K mg ww (hide fro H) (.dct ks (ls.map D.lst)) (.ref a) := by
  obtain ⟨ys, h1, h2, h3⟩ := h.dct
  have s : Same (hide (a :: (bs ++ fro)) H) (hide fro H) := hide_sub fun x hx => List.mem_cons_of_mem _ (List.mem_append_right _ hx)
  rw [IsD]
  exact ⟨a, ys, bs.map V.ref, rfl, ⟨hide_some.mpr ⟨h.off a List.mem_cons_self, h1.1⟩, h1.2⟩, IsDs.same s _ _ h2, h3, InL.free s (fun b hb => h.off b (List.mem_cons_of_mem _ hb)) h.lsts⟩
structure Base (H1 : Hp) (a : Addr) (bs : List Addr) (H : Hp) : Prop where
  new : ∀ x ∈ bs, H1 x = none
  keep : ∀ b o, b ≠ a → H1 b = some o → H b = some o
theorem Base.same {H1 H H' : Hp} {a : Addr} {bs : List Addr} (h : Base H1 a bs H) (s : Same H H') : Base H1 a bs H' := ⟨h.new, fun b o hb q => s b o (h.keep b o hb q)⟩
theorem Base.put {H1 H : Hp} {a p : Addr} {bs : List Addr} {o1 o2 : HO} (h : Base H1 a bs H) (hp : H p = none) (ha : H a ≠ none) : Base H1 a (bs ++ [p]) (upd (upd H p o1) a o2) := by
  have pa : p ≠ a := fun e => ha (by rw [← e]; exact hp)
  have p1 : H1 p = none := by
    cases q : H1 p with
    | none => rfl
    | some o =>
      rw [h.keep p o pa q] at hp
      cases hp
  refine ⟨fun x hx => ?_, fun b o hb q => ?_⟩
  · rcases List.mem_append.mp hx with hx | hx
    · exact h.new x hx
    · rw [List.mem_singleton.mp hx]
      exact p1
  · rw [upd_ne hb, upd_ne fun e => by rw [e, p1] at q; cases q]
    exact h.keep b o hb q
theorem Base.hide {H1 H : Hp} {a : Addr} {bs fro : List Addr} (h : Base H1 a bs H) : Same (DL.hide (a :: fro) H1) (DL.hide (a :: (bs ++ fro)) H) := fun b o z => by
  obtain ⟨z1, z2⟩ := hide_some.mp z
  have ba : b ≠ a := fun e => z1 (by rw [e]; exact List.mem_cons_self)
  refine hide_some.mpr ⟨fun q => ?_, h.keep b o ba z2⟩
  rcases List.mem_cons.mp q with q | q
  · exact ba q
  · rcases List.mem_append.mp q with q | q
    · rw [h.new b q] at z2
      cases z2
    · exact z1 (List.mem_cons_of_mem _ q)
end
end DL
namespace L2
open PySem PySem.Spec PyProof.Rows PySem.W
section
variable (key : Nat → Int)
def K' (p : Array Nat) (i : Nat) : Int := key (p.getD i 0)
def SortT (p : Array Nat) (k : Nat) : Prop := ∀ i j, i ≤ j → j < k → K' key p i ≤ K' key p j
def NonT (p : Array Nat) (k : Nat) : Prop := ∀ i j, i ≤ j → j < k → K' key p j ≤ K' key p i
variable {key}
theorem K_congr {p q : Array Nat} {i j : Nat} (h : p[i]? = q[j]?) : K' key p i = K' key q j := by
  unfold K'
  rw [Array.getD_eq_getD_getElem?, Array.getD_eq_getD_getElem?, h]
theorem K_rev {p : Array Nat} {i j : Nat} (hj : j ≤ p.size) (k : Nat) : K' key (kas_rev p i j) k = if i ≤ k ∧ k < j then K' key p (i + j - 1 - k) else K' key p k := by
  have e := getElem?_mirror_all (i := i) hj k
  unfold kas_rev
  by_cases h1 : i ≤ k ∧ k < j
  · rw [if_pos h1] at e ⊢
    exact K_congr e
  · rw [if_neg h1] at e ⊢
    exact K_congr e
def Blk (key : Nat → Int) (p : Array Nat) (n q : Nat) : Prop := q + 1 ≤ n ∧ ∀ k, n - (q + 1) ≤ k → k < n → K' key p k = K' key p (n - 1)
structure DescOk (key : Nat → Int) (p : Array Nat) (n f : Nat) (r : Array Nat × Nat × Nat) : Prop where
  lo : n ≤ r.2.1
  hi : r.2.1 ≤ n + f
  non : NonT key r.1 r.2.1
  blk : Blk key r.1 r.2.1 r.2.2
  size : r.1.size = p.size
  perm : r.1.Perm p
structure CountOk (key : Nat → Int) (p : Array Nat) (nrem : Nat) (r : Nat × Array Nat) : Prop where
  lo : 1 ≤ r.1
  hi : r.1 ≤ nrem
  sort : SortT key r.2 r.1
  size : r.2.size = p.size
  perm : r.2.Perm p
end
end L2
namespace L2
open PySem PySem.Spec PyProof.Rows PySem.W
def Safe {α : Type} (n : Nat) (P : α → Prop) : KasT α → Prop
  | .ret a => P a
  | .ask i j k => i < n ∧ j < n ∧ ∀ b, Safe n P (k b)
theorem Safe.bind {α β : Type} {n : Nat} {P : α → Prop} {Q : β → Prop} {f : α → KasT β} : ∀ {t : KasT α}, Safe n P t → (∀ a, P a → Safe n Q (f a)) → Safe n Q (t.bind f)
  | .ret a, h, g => g a h
  | .ask i j k, h, g => ⟨h.1, h.2.1, fun b => Safe.bind (h.2.2 b) g⟩
def AllLt (n : Nat) (p : Array Nat) : Prop := 0 < n ∧ ∀ x ∈ p.toList, x < n
theorem AllLt.at {n : Nat} {p : Array Nat} (h : AllLt n p) (i : Nat) : p.getD i 0 < n := by
  rw [Array.getD_eq_getD_getElem?]
  cases e : p[i]? with
  | none => exact h.1
  | some x => exact h.2 x (by rw [← Array.getElem?_toList] at e; exact List.mem_of_getElem? e)
theorem AllLt.perm {n : Nat} {p q : Array Nat} (h : AllLt n p) (e : q.Perm p) : AllLt n q := ⟨h.1, fun x hx => h.2 x (e.toList.mem_iff.mp hx)⟩
end L2
namespace L2
open PySem PySem.Spec PyProof.Rows PySem.W
section
variable {prog : Program} {w : World} {A : Around} {E : Value → Shared → Prop} {s : Shared}
end
end L2
namespace L2
open PySem PySem.Spec PyProof.Rows PySem.W
def IsTh (x : Str) (k : Int) : Prop := (x = "warp" ∨ x = "weft") ∧ 0 ≤ k ∧ k < 1000000
section
variable {prog : Program} {w : World} {A : Around} {E : Value → Shared → Prop} {s : Shared}
end
section
variable {X : Cx}
end
end L2
namespace DL
open PySem PySem.Spec L2
section
variable {X : Cx} {K : PySem.W.Frag} {mg : Str → Option Value} {ww : World}
end
end DL
namespace L2
open PySem PySem.Spec PyProof.Rows PySem.W
section
variable {prog : Program} {w : World} {A : Around} {E : Value → Shared → Prop} {s : Shared}
end
end L2
namespace L2
open PySem PySem.Spec PyProof.Rows PySem.W
section
variable {prog : Program} {w : World} {A : Around} {E : Value → Shared → Prop} {s : Shared}
end
section
variable {X : Cx}
end
end L2
namespace DL
open PySem PySem.Spec L2
section
variable {X : Cx} {K : PySem.W.Frag} {mg : Str → Option Value} {ww : World} {E : XK} {ow : List Bool}
end
end DL
namespace L2
open PySem PySem.Spec PyProof.Rows
end L2
namespace DL
open PySem PySem.Spec L2
def sameB (neg : Bool) (d e : D) : R D := match d, e with
  | .bl a, .bl b => .ok (.bl (if neg = true then !decide (a = b) else decide (a = b)))
  | _, _ => .bad
end DL
namespace L2
open PySem PySem.Spec PyProof.Rows PySem.W
section
variable {key : Nat → Int} {N : Nat}
def k2 (key : Nat → Int) (N : Nat) (i : Nat) : Int := key i * (N : Int) + (i : Int)
def idK (i : Nat) : Int := (i : Int)
theorem k2_is (p : Array Nat) (x : Nat) : K' (k2 key N) p x = K' key p x * (N : Int) + K' idK p x := rfl
theorem mulN {a b : Int} (h : a < b) : a * (N : Int) + (N : Int) ≤ b * (N : Int) := by
  have : (a + 1) * (N : Int) ≤ b * (N : Int) := Int.mul_le_mul_of_nonneg_right (by omega) (by omega)
  rw [Int.add_mul, Int.one_mul] at this
  exact this
structure Tl (p : Array Nat) (n N : Nat) : Prop where
  size : p.size = N
  tail : ∀ j, n ≤ j → j < N → K' idK p j = (j : Int)
  pre : ∀ i, i < n → K' idK p i < (n : Int)
theorem Tl.next {p : Array Nat} {n : Nat} (h : Tl p n N) (hn : n < N) : Tl p (n + 1) N :=
  ⟨h.size, fun j a b => h.tail j (by omega) b, fun i hi => by
    rcases Nat.lt_or_ge i n with q | q
    · have := h.pre i q
      omega
    · have := h.tail i q (by omega)
      omega⟩
theorem Tl.mono {p : Array Nat} {n m : Nat} (h : Tl p n N) (hm : n ≤ m) (hN : m ≤ N) : Tl p m N :=
  ⟨h.size, fun j a b => h.tail j (by omega) b, fun i hi => by
    rcases Nat.lt_or_ge i n with q | q
    · have := h.pre i q
      omega
    · have := h.tail i q (by omega)
      omega⟩
theorem Tl.get {p : Array Nat} {n j : Nat} (h : Tl p n N) (h1 : n ≤ j) (h2 : j < N) : p.getD j 0 = j := by
  have := h.tail j h1 h2
  unfold K' idK at this
  omega
theorem Tl.lt {p : Array Nat} {n i : Nat} (h : Tl p n N) (h1 : i < n) : p.getD i 0 < n := by
  have := h.pre i h1
  unfold K' idK at this
  omega
structure Ds (key : Nat → Int) (N : Nat) (p : Array Nat) (m q : Nat) : Prop where
  le : q + 1 ≤ m
  hi : m ≤ N
  tl : Tl p m N
  a : ∀ i j, i < j → j < m - (q + 1) → K' (k2 key N) p j ≤ K' (k2 key N) p i
  b : ∀ i, i < m - (q + 1) → K' key p (m - 1) < K' key p i
  c : ∀ i, m - (q + 1) ≤ i → i < m → K' key p i = K' key p (m - 1)
  e : ∀ i j, m - (q + 1) ≤ i → i ≤ j → j < m → K' idK p i ≤ K' idK p j
theorem Ds.blk {p : Array Nat} {m q : Nat} (h : Ds key N p m q) : Blk key p m q := ⟨h.le, h.c⟩
theorem Ds.non {p : Array Nat} {m q : Nat} (h : Ds key N p m q) : NonT (k2 key N) (kas_rev p (m - (q + 1)) m) m := fun i j hij hj => by
  have hle := h.le
  have hs := h.tl.size
  have hhi := h.hi
  rw [K_rev (by omega), K_rev (by omega)]
  by_cases hi : m - (q + 1) ≤ i
  · rw [if_pos (by omega), if_pos (by omega), k2_is, k2_is, h.c _ (by omega) (by omega), h.c (m - (q + 1) + m - 1 - i) (by omega) (by omega)]
    have := h.e (m - (q + 1) + m - 1 - j) (m - (q + 1) + m - 1 - i) (by omega) (by omega) (by omega)
    omega
  · rw [if_neg (c := m - (q + 1) ≤ i ∧ i < m) (by omega)]
    by_cases hj2 : m - (q + 1) ≤ j
    · rw [if_pos (by omega), k2_is, k2_is, h.c _ (by omega) (by omega)]
      have c1 := h.b i (by omega)
      have c2 := mulN (N := N) c1
      have c3 := h.tl.pre (m - (q + 1) + m - 1 - j) (by omega)
      have c4 : 0 ≤ K' idK p i := by unfold K' idK; omega
      omega
    · rw [if_neg (by omega)]
      rcases Nat.lt_or_ge i j with z | z
      · exact h.a i j z (by omega)
      · rw [show i = j by omega]
        exact Int.le_refl _
structure Ct (key : Nat → Int) (N : Nat) (r : Nat × Array Nat) : Prop where
  lo : 1 ≤ r.1
  hi : r.1 ≤ N
  sort : SortT (k2 key N) r.2 r.1
  tl : Tl r.2 r.1 N
end
end L2
namespace L2
open PySem PySem.SeqAt
abbrev holds (c : String) (vs : Array Value) (k : Nat) (d : Option Addr) (sl : Array (Option Value)) : Obj := { cls := .type c, dict := d, data := .seq vs k, slots := sl }
section
variable {A : Around} {s : Shared} {u v : Addr}
end
end L2
namespace L2
open PySem PySem.Spec PyProof.Rows PySem.W PySem.SeqAt
section
variable {A : Around} {s : Shared}
def ThAt (s : Shared) (v : Value) (q : Str × Int) : Prop := ∃ a t u, v = .ref a ∧ s.heap.IsTuple a #[.str q.1 t, .int q.2 u] ∧ IsTh q.1 q.2
structure ThsAt (s : Shared) (la : Addr) (items : List Value) (qs : List (Str × Int)) : Prop where
  lst : s.heap.IsList la items.toArray
  ths : Paired (ThAt s) items qs
theorem paired_get {α β : Type} {R : α → β → Prop} {xs : List α} {ys : List β} (h : Paired R xs ys) : ∀ (i : Nat) (x : α) (y : β), xs[i]? = some x → ys[i]? = some y → R x y := by
  induction h with
  | nil => intro i x y h; simp at h
  | cons h1 _ ih =>
    intro i x y hx hy
    cases i with
    | zero =>
      simp at hx hy
      subst hx hy
      exact h1
    | succ i => exact ih i x y (by simpa using hx) (by simpa using hy)
end
section
variable {prog : Program} {w : World} {A : Around} {E : Value → Shared → Prop} {s : Shared}
end
section
variable {X : Cx}
end
end L2
namespace DL
open PySem PySem.Spec L2
section
variable {X : Cx} {K : PySem.W.Frag} {mg : Str → Option Value} {ww : World}
end
end DL
namespace L2
open PySem PySem.SetTable
def adv (mask : Nat) (p : Probe) : Probe :=
  if p.more > 0 then { p with j := p.j + 1, more := p.more - 1 } else
  { p with j := (leap mask p.i p.perturb).1, more := runEnd mask (leap mask p.i p.perturb).1 - (leap mask p.i p.perturb).1, i := (leap mask p.i p.perturb).1, perturb := (leap mask p.i p.perturb).2 }
theorem advance_is (t : SetTable) (p : Probe) : t.advance p = adv t.mask p := rfl
def advN (mask : Nat) : Nat → Probe → Probe
  | 0, p => p
  | s + 1, p => advN mask s (adv mask p)
theorem advN_add (mask : Nat) : ∀ (a b : Nat) (p : Probe), advN mask (a + b) p = advN mask b (advN mask a p)
  | 0, b, p => by rw [Nat.zero_add]; rfl
  | a + 1, b, p => by rw [show a + 1 + b = (a + b) + 1 by omega, advN, advN_add mask a b, advN]
theorem advN_succ (mask s : Nat) (p : Probe) : advN mask (s + 1) p = adv mask (advN mask s p) := by
  rw [advN_add mask s 1]
  rfl
def Msk (mask : Nat) : Prop := mask = 7 ∨ mask = 31 ∨ mask = 127
structure Pr (mask : Nat) (p : Probe) : Prop where
  j : p.j ≤ mask
  room : p.more = 0 ∨ p.j + p.more ≤ mask
  more : p.more ≤ 9
  pert : p.perturb < 2 ^ 64
  dm : p.dummy = none
def lcg (mask i : Nat) : Nat := (i * 5 + 1) % (mask + 1)
def rnd (mask i perturb : Nat) : Probe := { j := i, more := runEnd mask i - i, i := i, perturb := perturb, dummy := none }
theorem rnd_pr {mask i perturb : Nat} (h : i ≤ mask) (hp : perturb < 2 ^ 64) : Pr mask (rnd mask i perturb) := by
  refine ⟨h, ?_, ?_, hp, rfl⟩
  · show runEnd mask i - i = 0 ∨ i + (runEnd mask i - i) ≤ mask
    unfold runEnd
    split <;> omega
  · show runEnd mask i - i ≤ 9
    unfold runEnd
    split <;> omega
theorem adv_pr {mask : Nat} {p : Probe} (h : Pr mask p) : Pr mask (adv mask p) := by
  unfold adv
  split
  · rename_i q
    obtain ⟨h1, h2, h3, h4, h5⟩ := h
    exact ⟨by show p.j + 1 ≤ mask; omega, by show p.more - 1 = 0 ∨ p.j + 1 + (p.more - 1) ≤ mask; omega, by show p.more - 1 ≤ 9; omega, h4, h5⟩
  · have hm : (leap mask p.i p.perturb).1 ≤ mask := Nat.lt_succ_iff.mp (Nat.mod_lt _ (by omega))
    have hp : (leap mask p.i p.perturb).2 < 2 ^ 64 := Nat.lt_of_le_of_lt (Nat.div_le_self _ _) h.pert
    have q := rnd_pr (mask := mask) hm hp
    exact ⟨q.j, q.room, q.more, q.pert, h.dm⟩
theorem advN_pr {mask : Nat} : ∀ (s : Nat) {p : Probe}, Pr mask p → Pr mask (advN mask s p)
  | 0, _, h => h
  | s + 1, _, h => advN_pr s (adv_pr h)
theorem run_out {mask : Nat} : ∀ (m : Nat) {p : Probe}, p.more = m → p.dummy = none → advN mask (m + 1) p = rnd mask (leap mask p.i p.perturb).1 (leap mask p.i p.perturb).2
  | 0, p, h, hd => by
    show adv mask p = _
    unfold adv rnd
    rw [if_neg (by omega), hd]
  | m + 1, p, h, hd => by
    rw [advN]
    have e : adv mask p = { p with j := p.j + 1, more := p.more - 1 } := by
      unfold adv
      rw [if_pos (by omega)]
    rw [e]
    exact run_out m (p := { p with j := p.j + 1, more := p.more - 1 }) (by show p.more - 1 = m; omega) hd
def rdI (mask : Nat) : Nat → Nat × Nat → Nat × Nat
  | 0, q => q
  | r + 1, q => rdI mask r (leap mask q.1 q.2)
theorem rdI_succ (mask : Nat) : ∀ (r : Nat) (q : Nat × Nat), rdI mask (r + 1) q = leap mask (rdI mask r q).1 (rdI mask r q).2
  | 0, q => rfl
  | r + 1, q => by rw [rdI, rdI_succ mask r, rdI]
theorem rounds {mask : Nat} {i perturb : Nat} : ∀ r : Nat, ∃ s, s ≤ 10 * r ∧ advN mask s (rnd mask i perturb) = rnd mask (rdI mask r (i, perturb)).1 (rdI mask r (i, perturb)).2
  | 0 => ⟨0, Nat.le_refl _, rfl⟩
  | r + 1 => by
    obtain ⟨s, h1, h2⟩ := rounds (i := i) (perturb := perturb) r
    have hm : (rnd mask (rdI mask r (i, perturb)).1 (rdI mask r (i, perturb)).2).more ≤ 9 := by
      show runEnd mask _ - _ ≤ 9
      unfold runEnd
      split <;> omega
    refine ⟨s + ((rnd mask (rdI mask r (i, perturb)).1 (rdI mask r (i, perturb)).2).more + 1), by omega, ?_⟩
    rw [advN_add, h2, run_out _ rfl rfl, rdI_succ]
    rfl
theorem pert_zero (mask : Nat) : ∀ (r : Nat) (q : Nat × Nat), (rdI mask r q).2 = q.2 / 32 ^ r
  | 0, q => by rw [rdI, Nat.pow_zero, Nat.div_one]
  | r + 1, q => by
    rw [rdI_succ]
    show (rdI mask r q).2 / 32 = _
    rw [pert_zero mask r q, Nat.div_div_eq_div_mul, Nat.pow_succ]
theorem rdI_add (mask : Nat) : ∀ (a b : Nat) (q : Nat × Nat), rdI mask (a + b) q = rdI mask b (rdI mask a q)
  | 0, b, q => by rw [Nat.zero_add]; rfl
  | a + 1, b, q => by rw [show a + 1 + b = (a + b) + 1 by omega, rdI, rdI_add mask a b, rdI]
def lcgN (mask : Nat) : Nat → Nat → Nat
  | 0, i => i
  | k + 1, i => lcgN mask k (lcg mask i)
theorem rdI_lcg (mask : Nat) : ∀ (k i : Nat), (rdI mask k (i, 0)) = (lcgN mask k i, 0)
  | 0, i => rfl
  | k + 1, i => by
    rw [rdI, lcgN]
    have e : leap mask (i, 0).1 (i, 0).2 = (lcg mask i, 0) := by
      unfold leap lcg
      simp
    rw [e]
    exact rdI_lcg mask k (lcg mask i)
def orb (mask : Nat) : Nat → Nat → List Nat
  | 0, _ => []
  | k + 1, i => i :: orb mask k (lcg mask i)
theorem orb_mem {mask : Nat} : ∀ {k i e : Nat}, e ∈ orb mask k i → ∃ a, a < k ∧ lcgN mask a i = e
  | 0, i, e, h => nomatch h
  | k + 1, i, e, h => by
    rw [orb] at h
    rcases List.mem_cons.mp h with rfl | h
    · exact ⟨0, by omega, rfl⟩
    · obtain ⟨a, ha, q⟩ := orb_mem h
      exact ⟨a + 1, by omega, q⟩
theorem lcgN_add (mask : Nat) : ∀ (a b i : Nat), lcgN mask (a + b) i = lcgN mask b (lcgN mask a i)
  | 0, b, i => by rw [Nat.zero_add]; rfl
  | a + 1, b, i => by rw [show a + 1 + b = (a + b) + 1 by omega, lcgN, lcgN_add mask a b, lcgN]
def chkO (m : Nat) : Bool := (List.range (m + 1)).all (fun e => (orb m (m + 1) 0).contains e) && lcgN m (m + 1) 0 == 0
theorem chk7 : chkO 7 = true := by decide +kernel
theorem chk31 : chkO 31 = true := by decide +kernel
theorem chk127 : chkO 127 = true := by decide +kernel
theorem full_of {m : Nat} (h : chkO m = true) {i e : Nat} (hi : i ≤ m) (he : e ≤ m) : ∃ a, a < m + 1 ∧ lcgN m a i = e := by
  unfold chkO at h
  rw [Bool.and_eq_true] at h
  have all : ∀ e, e ≤ m → ∃ a, a < m + 1 ∧ lcgN m a 0 = e := fun e he => orb_mem (List.contains_iff_mem.mp (List.all_eq_true.mp h.1 e (List.mem_range.mpr (by omega))))
  have per : lcgN m (m + 1) 0 = 0 := eq_of_beq h.2
  obtain ⟨a, ha, ea⟩ := all i hi
  obtain ⟨b, hb, eb⟩ := all e he
  subst ea
  rcases Nat.lt_or_ge b a with q | q
  · refine ⟨m + 1 - a + b, by omega, ?_⟩
    rw [← lcgN_add, show a + (m + 1 - a + b) = (m + 1) + b by omega, lcgN_add, per]
    exact eb
  · refine ⟨b - a, by omega, ?_⟩
    rw [← lcgN_add, show a + (b - a) = b by omega]
    exact eb
theorem full {mask : Nat} (h : Msk mask) {i e : Nat} (hi : i ≤ mask) (he : e ≤ mask) : ∃ a, a < mask + 1 ∧ lcgN mask a i = e := by
  rcases h with rfl | rfl | rfl
  · exact full_of chk7 hi he
  · exact full_of chk31 hi he
  · exact full_of chk127 hi he
theorem meets_all {mask : Nat} (hm : Msk mask) {p : Probe} (h : Pr mask p) {e : Nat} (he : e ≤ mask) : ∃ s, s ≤ 10 * (mask + 14) ∧ (advN mask s p).j = e := by
  have hl : (leap mask p.i p.perturb).1 ≤ mask := Nat.lt_succ_iff.mp (Nat.mod_lt _ (by omega))
  have hp : (leap mask p.i p.perturb).2 < 2 ^ 64 := Nat.lt_of_le_of_lt (Nat.div_le_self _ _) h.pert
  have e0 := run_out (mask := mask) p.more rfl h.dm
  generalize (leap mask p.i p.perturb).1 = i at e0 hl
  generalize (leap mask p.i p.perturb).2 = q at e0 hp
  have z : (rdI mask 13 (i, q)).2 = 0 := by
    rw [pert_zero]
    exact Nat.div_eq_of_lt (Nat.lt_of_lt_of_le hp (by decide))
  have li : (rdI mask 13 (i, q)).1 ≤ mask := by
    rw [rdI_succ]
    exact Nat.lt_succ_iff.mp (Nat.mod_lt _ (by omega))
  obtain ⟨a, ha, hae⟩ := full hm li he
  obtain ⟨s, hs1, hs2⟩ := rounds (mask := mask) (i := i) (perturb := q) (13 + a)
  have pm := h.more
  refine ⟨p.more + 1 + s, by omega, ?_⟩
  rw [advN_add, e0, hs2, rdI_add, show rdI mask 13 (i, q) = ((rdI mask 13 (i, q)).1, 0) from Prod.ext rfl z, rdI_lcg]
  exact hae
theorem nd_len : ∀ {l m : List Nat}, l.Nodup → (∀ x ∈ l, x ∈ m) → l.length ≤ m.length
  | [], _, _, _ => Nat.zero_le _
  | x :: l, m, hn, hs => by
    rw [List.nodup_cons] at hn
    have hx := hs x List.mem_cons_self
    have ih := nd_len (l := l) (m := m.erase x) hn.2 fun y hy => (List.mem_erase_of_ne (fun e => hn.1 (by rw [← e]; exact hy))).mpr (hs y (List.mem_cons_of_mem _ hy))
    rw [List.length_erase_of_mem hx] at ih
    have : 0 < m.length := List.length_pos_of_mem hx
    rw [List.length_cons]
    omega
def Rising (xs : Array Nat) : Prop := ∀ a b x y : Nat, a < b → xs[a]? = some x → xs[b]? = some y → x < y
theorem below_go {xs : Array Nat} {j : Nat} (hr : Rising xs) : ∀ (f lo hi : Nat), lo ≤ hi → hi ≤ xs.size → hi - lo ≤ f → (∀ k x : Nat, k < lo → xs[k]? = some x → x < j) → (∀ k x : Nat, hi ≤ k → xs[k]? = some x → j ≤ x) →
    below.go xs j f lo hi ≤ xs.size ∧ (∀ k x : Nat, k < below.go xs j f lo hi → xs[k]? = some x → x < j) ∧ ∀ k x : Nat, below.go xs j f lo hi ≤ k → xs[k]? = some x → j ≤ x
  | 0, lo, hi, h1, h2, h3, h4, h5 => by
    rw [below.go]
    exact ⟨by omega, h4, fun k x hk => h5 k x (by omega)⟩
  | f + 1, lo, hi, h1, h2, h3, h4, h5 => by
    rw [below.go]
    by_cases c : lo < hi
    · rw [if_pos c]
      have hm : (lo + hi) / 2 < xs.size := by omega
      have hx : xs[(lo + hi) / 2]? = some xs[(lo + hi) / 2] := Array.getElem?_eq_getElem hm
      have hg : xs.getD ((lo + hi) / 2) j = xs[(lo + hi) / 2] := by rw [Array.getD_eq_getD_getElem?, hx]; rfl
      show (if xs.getD ((lo + hi) / 2) j < j then below.go xs j f ((lo + hi) / 2 + 1) hi else below.go xs j f lo ((lo + hi) / 2)) ≤ xs.size ∧ _
      by_cases q : xs.getD ((lo + hi) / 2) j < j
      · simp only [if_pos q]
        refine below_go hr f _ hi (by omega) h2 (by omega) (fun k x hk hx2 => ?_) h5
        rcases Nat.lt_or_ge k ((lo + hi) / 2) with z | z
        · have := hr k _ x _ z hx2 hx
          omega
        · have : k = (lo + hi) / 2 := by omega
          subst this
          rw [hx] at hx2
          cases hx2
          omega
      · simp only [if_neg q]
        refine below_go hr f lo _ (by omega) (by omega) (by omega) h4 fun k x hk hx2 => ?_
        rcases Nat.lt_or_ge ((lo + hi) / 2) k with z | z
        · have := hr _ k _ x z hx hx2
          omega
        · have : k = (lo + hi) / 2 := by omega
          subst this
          rw [hx] at hx2
          cases hx2
          omega
    · rw [if_neg c]
      exact ⟨by omega, h4, fun k x hk => h5 k x (by omega)⟩
theorem below_ok {xs : Array Nat} (j : Nat) (hr : Rising xs) : below xs j ≤ xs.size ∧ (∀ k x : Nat, k < below xs j → xs[k]? = some x → x < j) ∧ ∀ k x : Nat, below xs j ≤ k → xs[k]? = some x → j ≤ x :=
  below_go hr xs.size 0 xs.size (Nat.zero_le _) (Nat.le_refl _) (Nat.le_refl _) (fun k x hk => by omega) fun k x hk hx => by
    rw [Array.getElem?_eq_none hk] at hx
    cases hx
theorem below_at {xs : Array Nat} {i j : Nat} (hr : Rising xs) (h : xs[i]? = some j) : below xs j = i := by
  obtain ⟨h1, h2, h3⟩ := below_ok j hr
  rcases Nat.lt_trichotomy (below xs j) i with z | z | z
  · have hb : below xs j < xs.size := by
      have := (Array.getElem?_eq_some_iff.mp h).1
      omega
    have hx : xs[below xs j]? = some xs[below xs j] := Array.getElem?_eq_getElem hb
    have a := h3 _ _ (Nat.le_refl _) hx
    have b := hr _ _ _ _ z hx h
    omega
  · exact z
  · have := h2 i j z h
    omega
structure Tab (t : SetTable) : Prop where
  msk : Msk t.mask
  dm : t.dummies = #[]
  ris : Rising t.place
  le : ∀ i j : Nat, t.place[i]? = some j → j ≤ t.mask
section
variable {t : SetTable}
theorem slot_live (h : Tab t) {i j : Nat} (hi : t.place[i]? = some j) : t.slot j = .live i := by
  unfold slot
  rw [below_at h.ris hi]
  simp [hi]
theorem slot_empty (h : Tab t) {j : Nat} (hj : ∀ i : Nat, t.place[i]? ≠ some j) : t.slot j = .empty := by
  unfold slot
  have : ¬ (t.place[below t.place j]? == some j) = true := fun z => hj _ (eq_of_beq z)
  simp only [this, if_false]
  have : has t.dummies j = false := by
    unfold has
    rw [h.dm]
    rfl
  simp [this]
theorem slot_is (h : Tab t) (j : Nat) : (∃ i : Nat, t.place[i]? = some j ∧ t.slot j = .live i) ∨ ((∀ i : Nat, t.place[i]? ≠ some j) ∧ t.slot j = .empty) := by
  by_cases q : ∃ i : Nat, t.place[i]? = some j
  · obtain ⟨i, hi⟩ := q
    exact .inl ⟨i, hi, slot_live h hi⟩
  · have q : ∀ i : Nat, t.place[i]? ≠ some j := fun i z => q ⟨i, z⟩
    exact .inr ⟨q, slot_empty h q⟩
def Occ (t : SetTable) (j : Nat) : Prop := ∃ i : Nat, t.place[i]? = some j
inductive MetAt (t : SetTable) (hashAt : Nat → Int) (h : Int) (p : Probe) : Met → Prop
  | empty (s : Nat) : (∀ s', s' < s → ∃ i : Nat, t.place[i]? = some (advN t.mask s' p).j ∧ hashAt i ≠ h) → ¬ Occ t (advN t.mask s p).j → MetAt t hashAt h p (.empty (advN t.mask s p).j none)
  | cand (s i : Nat) : (∀ s', s' < s → ∃ i : Nat, t.place[i]? = some (advN t.mask s' p).j ∧ hashAt i ≠ h) → t.place[i]? = some (advN t.mask s p).j → hashAt i = h → MetAt t hashAt h p (.candidate (advN t.mask s p).j i (advN t.mask (s + 1) p))
theorem go_met (ht : Tab t) {hashAt : Nat → Int} {h : Int} : ∀ (f : Nat) {p : Probe}, p.dummy = none → (∃ s, s < f ∧ ¬ Occ t (advN t.mask s p).j) → ∃ m, probe.go t hashAt h f p = some m ∧ MetAt t hashAt h p m
  | 0, p, _, ⟨s, hs, _⟩ => by omega
  | f + 1, p, hd, ⟨s, hs, hn⟩ => by
    rw [probe.go]
    rcases slot_is ht p.j with ⟨i, hi, e⟩ | ⟨hi, e⟩
    · rw [e]
      by_cases q : hashAt i = h
      · have q' : (hashAt i == h) = true := by rw [q]; exact beq_self_eq_true h
        simp only [q', if_true]
        exact ⟨_, rfl, MetAt.cand 0 i (fun s' hs' => by omega) hi q⟩
      · have q' : (hashAt i == h) = false := beq_eq_false_iff_ne.mpr q
        simp only [q', Bool.false_eq_true, if_false]
        have hd2 : (t.advance p).dummy = none := by
          rw [advance_is]
          unfold adv
          split <;> exact hd
        have hs0 : s ≠ 0 := by
          rintro rfl
          exact hn ⟨i, hi⟩
        obtain ⟨m, h1, h2⟩ := go_met ht f hd2 ⟨s - 1, by omega, by
          rw [advance_is]
          have : advN t.mask (s - 1) (adv t.mask p) = advN t.mask s p := by
            rw [show s = (s - 1) + 1 by omega]
            rfl
          rw [this]
          exact hn⟩
        refine ⟨m, h1, ?_⟩
        have lift : ∀ s0, (∀ s', s' < s0 → ∃ i : Nat, t.place[i]? = some (advN t.mask s' (t.advance p)).j ∧ hashAt i ≠ h) → ∀ s', s' < s0 + 1 → ∃ i : Nat, t.place[i]? = some (advN t.mask s' p).j ∧ hashAt i ≠ h := fun s0 a s' hs' => by
          cases s' with
          | zero => exact ⟨i, hi, q⟩
          | succ s' => exact a s' (by omega)
        cases h2 with
        | empty s0 a b => exact MetAt.empty (t := t) (hashAt := hashAt) (h := h) (p := p) (s0 + 1) (lift s0 a) b
        | cand s0 i0 a b c => exact MetAt.cand (t := t) (hashAt := hashAt) (h := h) (p := p) (s0 + 1) i0 (lift s0 a) b c
    · rw [e]
      simp only [hd]
      exact ⟨_, rfl, MetAt.empty 0 (fun s' hs' => by omega) fun ⟨i, z⟩ => hi i z⟩
theorem some_free (ht : Tab t) (hroom : t.place.size ≤ t.mask) : ∃ e, e ≤ t.mask ∧ ¬ Occ t e := by
  apply Classical.byContradiction
  intro hc
  have all : ∀ e, e ≤ t.mask → Occ t e := fun e he => Classical.byContradiction fun z => hc ⟨e, he, z⟩
  have sub : ∀ x ∈ List.range (t.mask + 1), x ∈ t.place.toList := fun x hx => by
    obtain ⟨i, hi⟩ := all x (by have := List.mem_range.mp hx; omega)
    exact List.mem_of_getElem? (i := i) (by simpa using hi)
  have := nd_len List.nodup_range sub
  rw [List.length_range, Array.length_toList] at this
  omega
theorem probe_met (ht : Tab t) (hroom : t.place.size ≤ t.mask) {hashAt : Nat → Int} {h : Int} {p : Probe} (hp : Pr t.mask p) : ∃ m, t.probe hashAt h p = some m ∧ MetAt t hashAt h p m := by
  obtain ⟨e, he, hn⟩ := some_free ht hroom
  obtain ⟨s, hs, hj⟩ := meets_all ht.msk hp he
  unfold probe
  refine go_met ht _ hp.dm ⟨s, ?_, by rw [hj]; exact hn⟩
  unfold turns
  omega
theorem start_pr {mask : Nat} (t : SetTable) (h : Int) : Pr t.mask (t.probeStart h) := by
  have hb : bits h < 2 ^ 64 := by
    unfold bits
    have := Int.emod_lt_of_pos h (show (0 : Int) < 2 ^ 64 by decide)
    have := Int.emod_nonneg h (show (2 ^ 64 : Int) ≠ 0 by decide)
    omega
  exact rnd_pr (Nat.lt_succ_iff.mp (Nat.mod_lt _ (by omega))) hb
end
def pth0 (mask : Nat) (h : Int) (s : Nat) : Nat := (advN mask s (rnd mask (bits h % (mask + 1)) (bits h))).j
theorem pth0_le (mask : Nat) (h : Int) (s : Nat) : pth0 mask h s ≤ mask := by
  have hb : bits h < 2 ^ 64 := by
    unfold bits
    have := Int.emod_lt_of_pos h (show (0 : Int) < 2 ^ 64 by decide)
    have := Int.emod_nonneg h (show (2 ^ 64 : Int) ≠ 0 by decide)
    omega
  exact (advN_pr s (rnd_pr (Nat.lt_succ_iff.mp (Nat.mod_lt _ (by omega))) hb)).j
structure TabH (t : SetTable) (hs : List Int) : Prop where
  tab : Tab t
  len : t.place.size = hs.length
  pth : ∀ (i j : Nat) (h : Int), hs[i]? = some h → t.place[i]? = some j → ∃ s, pth0 t.mask h s = j ∧ ∀ s', s' < s → Occ t (pth0 t.mask h s')
def insL {α : Type} (l : List α) (p : Nat) (x : α) : List α := l.take p ++ x :: l.drop p
theorem insL_get {α : Type} (l : List α) {p : Nat} (hp : p ≤ l.length) (x : α) (k : Nat) : (insL l p x)[k]? = if k < p then l[k]? else if k = p then some x else l[k - 1]? := by
  unfold insL
  have hl : (l.take p).length = p := by rw [List.length_take]; omega
  by_cases h1 : k < p
  · rw [if_pos h1, List.getElem?_append_left (by omega), List.getElem?_take_of_lt h1]
  · rw [if_neg h1, List.getElem?_append_right (by omega), hl]
    by_cases h2 : k = p
    · rw [if_pos h2, h2, Nat.sub_self]
      rfl
    · rw [if_neg h2, show k - p = (k - p - 1) + 1 by omega, List.getElem?_cons_succ, List.getElem?_drop]
      congr 1
      omega
theorem insA_get {α : Type} (xs : Array α) {p : Nat} (hp : p ≤ xs.size) (x : α) (k : Nat) : (insertAt xs p x)[k]? = if k < p then xs[k]? else if k = p then some x else xs[k - 1]? := by
  rw [← Array.getElem?_toList, toList_insertAt]
  have := insL_get xs.toList (by simpa using hp) x k
  unfold insL at this
  rw [this]
  simp
section
variable {t : SetTable} {hs : List Int}
theorem put_ok (H : TabH t hs) {h : Int} {s : Nat} (hn : ¬ Occ t (pth0 t.mask h s)) (hb : ∀ s', s' < s → Occ t (pth0 t.mask h s')) : TabH (t.put (pth0 t.mask h s)).1 (insL hs (t.put (pth0 t.mask h s)).2 h) ∧ (t.put (pth0 t.mask h s)).2 ≤ hs.length ∧ (t.put (pth0 t.mask h s)).1.mask = t.mask ∧ (t.put (pth0 t.mask h s)).1.moves = t.moves := by
  generalize hj : pth0 t.mask h s = j at hn
  obtain ⟨b1, b2, b3⟩ := below_ok j H.tab.ris
  have hd : has t.dummies j = false := by
    unfold has
    rw [H.tab.dm]
    rfl
  have e1 : (t.put j).2 = below t.place j := rfl
  have e2 : (t.put j).1 = { t with place := insertAt t.place (below t.place j) j } := by
    unfold put
    simp [hd]
  rw [e1, e2]
  generalize below t.place j = p at b1 b2 b3
  have hpl : p ≤ hs.length := by rw [← H.len]; exact b1
  have get := insA_get t.place b1 j
  have occ : ∀ k, Occ { t with place := insertAt t.place p j } k ↔ Occ t k ∨ k = j := fun k => by
    constructor
    · rintro ⟨i, hi⟩
      have hi : (insertAt t.place p j)[i]? = some k := hi
      rw [get] at hi
      split at hi
      · exact .inl ⟨i, hi⟩
      · split at hi
        · cases hi
          exact .inr rfl
        · exact .inl ⟨i - 1, hi⟩
    · rintro (⟨i, hi⟩ | rfl)
      · by_cases q : i < p
        · refine ⟨i, ?_⟩
          show (insertAt t.place p j)[i]? = some k
          rw [get, if_pos q]
          exact hi
        · refine ⟨i + 1, ?_⟩
          show (insertAt t.place p j)[i + 1]? = some k
          rw [get, if_neg (by omega), if_neg (by omega)]
          exact hi
      · refine ⟨p, ?_⟩
        show (insertAt t.place p k)[p]? = some k
        rw [get, if_neg (by omega), if_pos rfl]
  refine ⟨⟨⟨H.tab.msk, H.tab.dm, ?_, ?_⟩, ?_, ?_⟩, hpl, rfl, rfl⟩
  · intro a b x y hab hx hy
    have hx : (insertAt t.place p j)[a]? = some x := hx
    have hy : (insertAt t.place p j)[b]? = some y := hy
    rw [get] at hx hy
    have low : ∀ {k z}, k < p → t.place[k]? = some z → z < j := fun {k z} hk hz => b2 k z hk hz
    have high : ∀ {k z}, p ≤ k → t.place[k]? = some z → j < z := fun {k z} hk hz => by
      have := b3 k z hk hz
      rcases Nat.lt_or_eq_of_le this with q | q
      · exact q
      · exact absurd ⟨k, by rw [q]; exact hz⟩ hn
    split at hx
    · split at hy
      · exact H.tab.ris a b x y hab hx hy
      · split at hy
        · cases hy
          exact low (by assumption) hx
        · have := low (by assumption) hx
          have := high (k := b - 1) (by omega) hy
          omega
    · split at hx
      · cases hx
        rw [if_neg (by omega), if_neg (by omega)] at hy
        exact high (by omega) hy
      · rw [if_neg (by omega), if_neg (by omega)] at hy
        exact H.tab.ris (a - 1) (b - 1) x y (by omega) hx hy
  · intro i k hi
    have hi : (insertAt t.place p j)[i]? = some k := hi
    rw [get] at hi
    split at hi
    · exact H.tab.le i k hi
    · split at hi
      · cases hi
        rw [← hj]
        exact pth0_le _ _ _
      · exact H.tab.le _ k hi
  · show (insertAt t.place p j).size = (insL hs p h).length
    rw [← Array.length_toList, toList_insertAt]
    unfold insL
    rw [List.length_append, List.length_append, List.length_cons, List.length_cons, List.length_take, List.length_take, List.length_drop, List.length_drop, Array.length_toList, H.len]
  · intro i k g hg hi
    have hi : (insertAt t.place p j)[i]? = some k := hi
    rw [get] at hi
    rw [insL_get hs hpl] at hg
    have old : ∀ i', hs[i']? = some g → t.place[i']? = some k → ∃ s, pth0 t.mask g s = k ∧ ∀ s', s' < s → Occ { t with place := insertAt t.place p j } (pth0 t.mask g s') := fun i' a b => by
      obtain ⟨s, c1, c2⟩ := H.pth i' k g a b
      exact ⟨s, c1, fun s' hs' => (occ _).mpr (.inl (c2 s' hs'))⟩
    split at hi
    · rw [if_pos (by assumption)] at hg
      exact old i hg hi
    · rw [if_neg (by assumption)] at hg
      split at hi
      · rw [if_pos (by assumption)] at hg
        cases hg
        cases hi
        exact ⟨s, hj, fun s' hs' => (occ _).mpr (.inl (hb s' hs'))⟩
      · rw [if_neg (by assumption)] at hg
        exact old _ hg hi
theorem on_way (H : TabH t hs) {i : Nat} {h : Int} (hi : hs[i]? = some h) {s : Nat} (hn : ¬ Occ t (pth0 t.mask h s)) : ∃ s', s' < s ∧ t.place[i]? = some (pth0 t.mask h s') := by
  have hp : i < t.place.size := by
    rw [H.len]
    exact (List.getElem?_eq_some_iff.mp hi).1
  have hx : t.place[i]? = some t.place[i] := Array.getElem?_eq_getElem hp
  obtain ⟨s', c1, c2⟩ := H.pth i _ h hi hx
  refine ⟨s', ?_, by rw [c1]; exact hx⟩
  rcases Nat.lt_or_ge s' s with q | q
  · exact q
  · rcases Nat.lt_or_eq_of_le q with q | q
    · exact absurd (c2 s q) hn
    · rw [q, c1] at hn
      exact absurd ⟨i, hx⟩ hn
end
def OccO (ow : Array (Option Nat)) (j : Nat) : Prop := ∃ a : Nat, ow[j]? = some (some a)
theorem in_run {mask i perturb k : Nat} : k ≤ runEnd mask i - i → (advN mask k (rnd mask i perturb)).j = i + k ∧ (advN mask k (rnd mask i perturb)).more = runEnd mask i - i - k := by
  induction k with
  | zero => intro _; exact ⟨rfl, rfl⟩
  | succ k ih =>
    intro h
    obtain ⟨h1, h2⟩ := ih (by omega)
    rw [advN_succ]
    unfold adv
    rw [if_pos (by rw [h2]; omega)]
    exact ⟨by show (advN mask k (rnd mask i perturb)).j + 1 = _; rw [h1]; omega, by show (advN mask k (rnd mask i perturb)).more - 1 = _; rw [h2]; omega⟩
section
variable {mask : Nat} {ow : Array (Option Nat)}
theorem none_is (hz : ow.size = mask + 1) {j : Nat} (hj : j ≤ mask) : (ow.getD j (some 0)).isNone = true ↔ ¬ OccO ow j := by
  have hx : ow[j]? = some ow[j] := Array.getElem?_eq_getElem (by omega)
  rw [Array.getD_eq_getD_getElem?, hx]
  show (ow[j]).isNone = true ↔ _
  unfold OccO
  rw [hx]
  cases ow[j] with
  | none => simp
  | some a => simp
theorem free_ok (hz : ow.size = mask + 1) : ∀ (f i perturb : Nat), i ≤ mask → (∃ r, r < f ∧ ¬ OccO ow (rdI mask r (i, perturb)).1) → ∃ s, layClean.free mask ow f i perturb = some (advN mask s (rnd mask i perturb)).j ∧ ¬ OccO ow (advN mask s (rnd mask i perturb)).j ∧ ∀ s', s' < s → OccO ow (advN mask s' (rnd mask i perturb)).j
  | 0, i, perturb, _, ⟨r, hr, _⟩ => by omega
  | f + 1, i, perturb, hi, ⟨r, hr, hn⟩ => by
    rw [layClean.free]
    have re : i ≤ runEnd mask i ∧ runEnd mask i ≤ mask := by
      unfold runEnd
      split <;> omega
    cases hf : (List.range (runEnd mask i + 1 - i)).find? fun k => (ow.getD (i + k) (some 0)).isNone with
    | some k =>
      have hk := List.mem_range.mp (List.mem_of_find?_eq_some hf)
      have hk2 : (ow.getD (i + k) (some 0)).isNone = true := by simpa using List.find?_some hf
      have j1 := (in_run (mask := mask) (i := i) (perturb := perturb) (k := k) (by omega)).1
      refine ⟨k, by rw [j1], by rw [j1]; exact (none_is hz (by omega)).mp hk2, fun s' hs' => ?_⟩
      have j2 := (in_run (mask := mask) (i := i) (perturb := perturb) (k := s') (by omega)).1
      rw [j2]
      apply Classical.byContradiction
      intro z
      have z := (none_is hz (by omega)).mpr z
      have nf := List.find?_eq_some_iff_append.mp hf
      obtain ⟨_, as, bs, e, q⟩ := nf
      have hm : s' ∈ as := by
        have e2 : (List.range (runEnd mask i + 1 - i))[s']? = some s' := List.getElem?_range (by omega)
        have e3 : (List.range (runEnd mask i + 1 - i))[as.length]? = some k := by rw [e]; simp
        have e4 : as.length = k := by
          have l : as.length < runEnd mask i + 1 - i := by
            have := congrArg List.length e
            rw [List.length_range, List.length_append, List.length_cons] at this
            omega
          rw [List.getElem?_range l] at e3
          exact Option.some.inj e3
        rw [e, List.getElem?_append_left (by omega)] at e2
        exact List.mem_of_getElem? e2
      have := q s' hm
      rw [z] at this
      cases this
    | none =>
      have nf := List.find?_eq_none.mp hf
      have occ : ∀ k, k ≤ runEnd mask i - i → OccO ow (i + k) := fun k hk => by
        apply Classical.byContradiction
        intro z
        exact nf k (List.mem_range.mpr (by omega)) ((none_is hz (by omega)).mpr z)
      have r0 : r ≠ 0 := by
        rintro rfl
        have := occ 0 (by omega)
        rw [Nat.add_zero] at this
        exact hn this
      have lm : (leap mask i perturb).1 ≤ mask := Nat.lt_succ_iff.mp (Nat.mod_lt _ (by omega))
      obtain ⟨s, h1, h2, h3⟩ := free_ok hz f (leap mask i perturb).1 (leap mask i perturb).2 lm ⟨r - 1, by omega, by
        have : rdI mask (r - 1) (leap mask i perturb) = rdI mask r (i, perturb) := by
          rw [show r = (r - 1) + 1 by omega]
          rfl
        rw [show ((leap mask i perturb).1, (leap mask i perturb).2) = leap mask i perturb from rfl, this]
        exact hn⟩
      have e : advN mask (runEnd mask i - i + 1) (rnd mask i perturb) = rnd mask (leap mask i perturb).1 (leap mask i perturb).2 := run_out _ rfl rfl
      refine ⟨runEnd mask i - i + 1 + s, ?_, ?_, fun s' hs' => ?_⟩
      · rw [advN_add, e]
        exact h1
      · rw [advN_add, e]
        exact h2
      · rcases Nat.lt_or_ge s' (runEnd mask i - i + 1) with q | q
        · rw [(in_run (by omega)).1]
          exact occ s' (by omega)
        · rw [show s' = runEnd mask i - i + 1 + (s' - (runEnd mask i - i + 1)) by omega, advN_add, e]
          exact h3 _ (by omega)
structure Own (mask : Nat) (hs : List Int) (k : Nat) (ow : Array (Option Nat)) : Prop where
  size : ow.size = mask + 1
  inj : ∀ i j a : Nat, ow[i]? = some (some a) → ow[j]? = some (some a) → i = j
  lt : ∀ j a : Nat, ow[j]? = some (some a) → a < k
  onto : ∀ a : Nat, a < k → ∃ j : Nat, ow[j]? = some (some a)
  pth : ∀ (j a : Nat) (h : Int), ow[j]? = some (some a) → hs[a]? = some h → ∃ s, pth0 mask h s = j ∧ ∀ s', s' < s → OccO ow (pth0 mask h s')
theorem own_room (hm : Msk mask) {hs : List Int} {k : Nat} (O : Own mask hs k ow) (hk : k ≤ mask) (i perturb : Nat) (hi : i ≤ mask) (hp : perturb < 2 ^ 64) : ∃ r, r < turns mask ∧ ¬ OccO ow (rdI mask r (i, perturb)).1 := by
  have : ∃ e, e ≤ mask ∧ ¬ OccO ow e := by
    apply Classical.byContradiction
    intro hc
    have all : ∀ e, e ≤ mask → OccO ow e := fun e he => Classical.byContradiction fun z => hc ⟨e, he, z⟩
    have hf : ∃ f : Nat → Nat, ∀ e, e ≤ mask → ow[e]? = some (some (f e)) := by
      classical
      refine ⟨fun e => if q : OccO ow e then q.choose else 0, fun e he => ?_⟩
      have q := all e he
      simp only [dif_pos q]
      exact q.choose_spec
    obtain ⟨f, hf⟩ := hf
    have nd : ((List.range (mask + 1)).map f).Nodup := by
      rw [List.Nodup, List.pairwise_map]
      refine List.Pairwise.imp_of_mem (fun {a b} ha hb hab e => ?_) List.pairwise_lt_range
      have := O.inj a b (f a) (hf a (by have := List.mem_range.mp ha; omega)) (by rw [e]; exact hf b (by have := List.mem_range.mp hb; omega))
      omega
    have sub : ∀ x ∈ (List.range (mask + 1)).map f, x ∈ List.range k := fun x hx => by
      obtain ⟨e, he, rfl⟩ := List.mem_map.mp hx
      exact List.mem_range.mpr (O.lt e _ (hf e (by have := List.mem_range.mp he; omega)))
    have := nd_len nd sub
    rw [List.length_map, List.length_range, List.length_range] at this
    omega
  obtain ⟨e, he, hn⟩ := this
  have z : (rdI mask 13 (i, perturb)).2 = 0 := by
    rw [pert_zero]
    exact Nat.div_eq_of_lt (Nat.lt_of_lt_of_le hp (by decide))
  have li : (rdI mask 13 (i, perturb)).1 ≤ mask := by
    rw [rdI_succ]
    exact Nat.lt_succ_iff.mp (Nat.mod_lt _ (by omega))
  obtain ⟨a, ha, hae⟩ := full hm li he
  refine ⟨13 + a, by unfold turns; omega, ?_⟩
  rw [rdI_add, show rdI mask 13 (i, perturb) = ((rdI mask 13 (i, perturb)).1, 0) from Prod.ext rfl z, rdI_lcg]
  show ¬ OccO ow (lcgN mask a _)
  rw [hae]
  exact hn
theorem own_step (hm : Msk mask) {hs : List Int} {k : Nat} (O : Own mask hs k ow) (hk : k ≤ mask) {h : Int} (hh : hs[k]? = some h) : ∃ j, layClean.free mask ow (turns mask) (bits h % (mask + 1)) (bits h) = some j ∧ Own mask hs (k + 1) (ow.setIfInBounds j (some k)) := by
  have hb : bits h < 2 ^ 64 := by
    unfold bits
    have := Int.emod_lt_of_pos h (show (0 : Int) < 2 ^ 64 by decide)
    have := Int.emod_nonneg h (show (2 ^ 64 : Int) ≠ 0 by decide)
    omega
  have hi : bits h % (mask + 1) ≤ mask := Nat.lt_succ_iff.mp (Nat.mod_lt _ (by omega))
  obtain ⟨s, h1, h2, h3⟩ := free_ok O.size (turns mask) _ _ hi (own_room hm O hk _ _ hi hb)
  have hj := pth0_le mask h s
  refine ⟨_, h1, ?_⟩
  have h2 : ¬ OccO ow (pth0 mask h s) := h2
  have h3 : ∀ s', s' < s → OccO ow (pth0 mask h s') := h3
  show Own mask hs (k + 1) (ow.setIfInBounds (pth0 mask h s) (some k))
  generalize hjj : pth0 mask h s = j at h2 hj
  have hz := O.size
  have get : ∀ i : Nat, (ow.setIfInBounds j (some k))[i]? = if i = j then some (some k) else ow[i]? := fun i => by
    rw [Array.getElem?_setIfInBounds]
    by_cases q : j = i
    · rw [if_pos q, if_pos q.symm, if_pos (by omega)]
    · rw [if_neg q, if_neg fun z => q z.symm]
  have occ : ∀ i, OccO ow i → OccO (ow.setIfInBounds j (some k)) i := fun i ⟨a, ha⟩ => by
    unfold OccO
    rw [get]
    by_cases q : i = j
    · rw [if_pos q]
      exact ⟨k, rfl⟩
    · rw [if_neg q]
      exact ⟨a, ha⟩
  refine ⟨by rw [Array.size_setIfInBounds]; exact hz, fun i i' a p q => ?_, fun i a p => ?_, fun a ha => ?_, fun i a g p q => ?_⟩
  · rw [get] at p q
    split at p
    · split at q
      · omega
      · cases p
        have := O.lt _ _ q
        omega
    · split at q
      · cases q
        have := O.lt _ _ p
        omega
      · exact O.inj i i' a p q
  · rw [get] at p
    split at p
    · cases p
      omega
    · have := O.lt _ _ p
      omega
  · rcases Nat.lt_or_ge a k with q | q
    · obtain ⟨i, hi⟩ := O.onto a q
      refine ⟨i, ?_⟩
      rw [get, if_neg]
      · exact hi
      · rintro rfl
        exact h2 ⟨a, hi⟩
    · refine ⟨j, ?_⟩
      rw [get, if_pos rfl, show a = k by omega]
  · rw [get] at p
    split at p
    · cases p
      rw [hh] at q
      cases q
      exact ⟨s, by rw [hjj]; omega, fun s' hs' => occ _ (h3 s' hs')⟩
    · obtain ⟨s1, c1, c2⟩ := O.pth i a g p q
      exact ⟨s1, c1, fun s' hs' => occ _ (c2 s' hs')⟩
end
section
variable {mask : Nat} {hs : List Int}
def layStep (mask : Nat) (acc : Option (Array (Option Nat) × Nat)) (h : Int) : Option (Array (Option Nat) × Nat) := do
  let (owner, k) ← acc
  let j ← layClean.free mask owner (turns mask) (bits h % (mask + 1)) (bits h)
  pure (owner.setIfInBounds j (some k), k + 1)
theorem lay_fold (hm : Msk mask) (hl : hs.length ≤ mask) : ∀ k, k ≤ hs.length → ∃ ow, (hs.take k).foldl (layStep mask) (some (Array.replicate (mask + 1) none, 0)) = some (ow, k) ∧ Own mask hs k ow
  | 0, _ => by
    refine ⟨_, rfl, by simp, fun i j a p => ?_, fun j a p => ?_, fun a ha => by omega, fun j a h p => ?_⟩
    all_goals
      rw [Array.getElem?_replicate] at p
      split at p <;> simp at p
  | k + 1, hk => by
    obtain ⟨ow, h1, O⟩ := lay_fold hm hl k (by omega)
    have hh : hs[k]? = some hs[k] := List.getElem?_eq_getElem (by omega)
    obtain ⟨j, h2, h3⟩ := own_step hm O (by omega) hh
    refine ⟨_, ?_, h3⟩
    rw [List.take_succ, hh, List.foldl_append, h1]
    show layStep mask (some (ow, k)) hs[k] = _
    unfold layStep
    simp [h2]
theorem layClean_is (hm : Msk mask) (hl : hs.length ≤ mask) : ∃ ow, layClean mask hs.toArray = some ow ∧ Own mask hs hs.length ow := by
  obtain ⟨ow, h1, O⟩ := lay_fold hm hl hs.length (Nat.le_refl _)
  refine ⟨ow, ?_, O⟩
  rw [List.take_length] at h1
  unfold layClean
  rw [List.foldl_toArray']
  · have e : (hs.foldl (fun acc h => do
        let (owner, k) ← acc
        let j ← layClean.free mask owner (turns mask) (bits h % (mask + 1)) (bits h)
        pure (owner.setIfInBounds j (some k), k + 1)) (some (Array.replicate (mask + 1) none, 0))) = some (ow, hs.length) := h1
    rw [e]
    rfl
  · simp
def liveL (mask : Nat) (ow : Array (Option Nat)) : List (Nat × Nat) := (List.range (mask + 1)).filterMap fun j => (ow.getD j none).map (j, ·)
theorem live_mem {ow : Array (Option Nat)} (hz : ow.size = mask + 1) {p : Nat × Nat} : p ∈ liveL mask ow ↔ ow[p.1]? = some (some p.2) := by
  unfold liveL
  rw [List.mem_filterMap]
  constructor
  · rintro ⟨j, hj, e⟩
    have hj := List.mem_range.mp hj
    have hx : ow[j]? = some ow[j] := Array.getElem?_eq_getElem (by omega)
    rw [Array.getD_eq_getD_getElem?, hx] at e
    have e : (ow[j]).map (j, ·) = some p := e
    cases hq : ow[j] with
    | none => rw [hq] at e; cases e
    | some a =>
      rw [hq] at e
      cases e
      rw [hx, hq]
  · intro h
    have hj := (Array.getElem?_eq_some_iff.mp h).1
    refine ⟨p.1, List.mem_range.mpr (by omega), ?_⟩
    rw [Array.getD_eq_getD_getElem?, h]
    rfl
theorem live_inc (mask : Nat) (ow : Array (Option Nat)) : (liveL mask ow).Pairwise fun p q => p.1 < q.1 := by
  unfold liveL
  rw [List.pairwise_filterMap]
  refine List.Pairwise.imp (fun {a b} hab p hp q hq => ?_) List.pairwise_lt_range
  have e1 : p.1 = a := by
    cases h : ow.getD a none with
    | none => rw [h] at hp; cases hp
    | some x => rw [h] at hp; cases hp; rfl
  have e2 : q.1 = b := by
    cases h : ow.getD b none with
    | none => rw [h] at hq; cases hq
    | some x => rw [h] at hq; cases hq; rfl
  omega
theorem laid_ok (hm : Msk mask) (hl : hs.length ≤ mask) (finger moves : Nat) (led plain : Bool) : ∃ t order, laid mask finger moves led plain hs.toArray = some (t, order) ∧ t.mask = mask ∧ t.moves = moves ∧ t.led = led ∧ order.toList.Perm (List.range hs.length) ∧ TabH t (order.toList.map fun a => hs.getD a 0) := by
  obtain ⟨ow, h1, O⟩ := layClean_is hm hl
  have hz := O.size
  have li := live_inc mask ow
  have lm := fun p => live_mem hz (p := p)
  have fst : ∀ (i j : Nat), ((liveL mask ow).map (·.1)).toArray[i]? = some j → ∃ a, (liveL mask ow)[i]? = some (j, a) := fun i j h => by
    simp only [List.getElem?_toArray, List.getElem?_map] at h
    cases q : (liveL mask ow)[i]? with
    | none => rw [q] at h; cases h
    | some p =>
      rw [q] at h
      cases h
      exact ⟨p.2, rfl⟩
  refine ⟨{ mask, place := ((liveL mask ow).map (·.1)).toArray, dummies := #[], finger, led, moves, plain }, ((liveL mask ow).map (·.2)).toArray, ?_, rfl, rfl, rfl, ?_, ?_⟩
  · unfold laid
    rw [h1]
    rfl
  · rw [List.toList_toArray]
    refine (List.perm_ext_iff_of_nodup ?_ List.nodup_range).mpr fun a => ?_
    · rw [List.Nodup, List.pairwise_map]
      refine List.Pairwise.imp_of_mem (fun {p q} hp hq hpq e => ?_) li
      have := O.inj p.1 q.1 p.2 ((lm p).mp hp) (by rw [e]; exact (lm q).mp hq)
      omega
    · rw [List.mem_map, List.mem_range]
      constructor
      · rintro ⟨p, hp, rfl⟩
        exact O.lt _ _ ((lm p).mp hp)
      · intro ha
        obtain ⟨j, hj⟩ := O.onto a ha
        exact ⟨(j, a), (lm (j, a)).mpr hj, rfl⟩
  · refine ⟨⟨hm, rfl, fun a b x y hab hx hy => ?_, fun i j h => ?_⟩, by simp, fun i j h hi hj => ?_⟩
    · obtain ⟨u, hu⟩ := fst a x hx
      obtain ⟨v, hv⟩ := fst b y hy
      obtain ⟨a1, a2⟩ := List.getElem?_eq_some_iff.mp hu
      obtain ⟨b1, b2⟩ := List.getElem?_eq_some_iff.mp hv
      have := List.pairwise_iff_getElem.mp li a b a1 b1 hab
      rw [a2, b2] at this
      exact this
    · obtain ⟨u, hu⟩ := fst i j h
      have := (Array.getElem?_eq_some_iff.mp ((lm (j, u)).mp (List.mem_of_getElem? hu))).1
      show j ≤ mask
      have : j < ow.size := this
      omega
    · obtain ⟨u, hu⟩ := fst i j hj
      have hm2 := (lm (j, u)).mp (List.mem_of_getElem? hu)
      have hu2 := O.lt _ _ hm2
      have hg : hs[u]? = some h := by
        rw [List.toList_toArray, List.map_map, List.getElem?_map, hu] at hi
        have hi : some (hs.getD u 0) = some h := hi
        rw [List.getD_eq_getElem?_getD, List.getElem?_eq_getElem hu2] at hi
        rw [List.getElem?_eq_getElem hu2]
        exact hi
      obtain ⟨s, c1, c2⟩ := O.pth j u h hm2 hg
      refine ⟨s, c1, fun s' hs' => ?_⟩
      obtain ⟨a, ha⟩ := c2 s' hs'
      obtain ⟨i', hi', e⟩ := List.getElem_of_mem ((lm (pth0 mask h s', a)).mpr ha)
      refine ⟨i', ?_⟩
      show ((liveL mask ow).map (·.1)).toArray[i']? = _
      simp only [List.getElem?_toArray, List.getElem?_map]
      rw [List.getElem?_eq_getElem hi', e]
      rfl
end
end L2
namespace L2
open PySem PySem.Spec PyProof.Rows PySem.SetTable
section
variable {prog : Program} {w : World} {A : Around} {E : Value → Shared → Prop}
theorem keyByValue : ∀ (n : Nat) (d : PyData) (s : Shared) (v : Value) (as : List Addr) (Q : Bool → Shared → Prop), keyD d = true → d.depth ≤ n → Reads s.heap v d as → (∀ b, Q b s) → wpAny (model prog w) A (hashByValue n v) Q E s
  | n, .int i, s, v, as, Q, _, _, r, h => by
    cases r with
    | int i t => rw [hashByValue_scannable n rfl]; exact wpAny_pure (h _)
  | n, .str i, s, v, as, Q, _, _, r, h => by
    cases r with
    | str i t => rw [hashByValue_scannable n rfl]; exact wpAny_pure (h _)
  | 0, .tuple ks, s, v, as, Q, hk, hu, r, h => by
    rw [PyData.depth] at hu
    omega
  | n + 1, .tuple ks, s, v, as, Q, hk, hu, r, h => by
    rw [keyD] at hk
    rw [PyData.depth] at hu
    cases r with
    | @tuple a o items m xs as' ho hc hd hi =>
      have hT : s.TypeIs (.ref a) "tuple" := ⟨o, ho, hc⟩
      unfold hashByValue
      refine wpAny_bind (wpAny_specialOf hT F.slot_tuple_hash.lookup ?_)
      show wpAny _ _ (seqItems? (.ref a) >>= _) _ _ s
      refine wpAny_bind (wpAny_seqItems ho hd ?_)
      refine wpAny_bind ?_
      show wpAny _ _ (forIn items _ _) _ _ s
      rw [← Array.forIn_toList]
      refine wpAny_forIn_list _ (fun rest r s' => s' = s ∧ ∃ (left : List PyData) (lb : List Addr), keyDs left = true ∧ PyData.depthAll left ≤ n ∧ ReadsAll s.heap rest left lb) _ ?_ ?_ _ _ ⟨rfl, ks, _, hk, by omega, hi⟩
      · rintro v rest r s' ⟨rfl, left, lb, hl, hdp, hrd⟩
        cases hrd with
        | @cons _ _ d ds _ _ r1 rs =>
          rw [keyDs, Bool.and_eq_true] at hl
          rw [PyData.depthAll] at hdp
          refine wpAny_bind (keyByValue n d _ _ _ _ hl.1 (by omega) r1 fun b => ?_)
          cases b with
          | true =>
            simp only [Bool.not_true, Bool.false_eq_true, if_false]
            exact wpAny_pure ⟨rfl, ds, _, hl.2, by omega, rs⟩
          | false =>
            simp only [Bool.not_false, if_true]
            exact wpAny_pure (wpAny_pure (h _))
      · rintro ⟨r1, r2⟩ s' ⟨rfl, _⟩
        cases r1 with
        | none => exact wpAny_pure (h _)
        | some b => exact wpAny_pure (h _)
  | _, .none, _, _, _, _, h, _, _, _ => by simp [keyD] at h
  | _, .bool _, _, _, _, _, h, _, _, _ => by simp [keyD] at h
  | _, .list _, _, _, _, _, h, _, _, _ => by simp [keyD] at h
  | _, .dict _, _, _, _, _, h, _, _, _ => by simp [keyD] at h
theorem keyNoClass : ∀ (n : Nat) (d : PyData) (s : Shared) (v : Value) (as : List Addr) (Q : Bool → Shared → Prop), keyD d = true → d.depth ≤ n → Reads s.heap v d as → Q false s → wpAny (model prog w) A (ofAClassStatement n v) Q E s
  | n, .int i, s, v, as, Q, _, _, r, h => by
    cases r with
    | int i t => cases n <;> exact wpAny_pure h
  | n, .str i, s, v, as, Q, _, _, r, h => by
    cases r with
    | str i t => cases n <;> exact wpAny_pure h
  | 0, .tuple ks, s, v, as, Q, hk, hu, r, h => by
    rw [PyData.depth] at hu
    omega
  | n + 1, .tuple ks, s, v, as, Q, hk, hu, r, h => by
    rw [keyD] at hk
    rw [PyData.depth] at hu
    cases r with
    | @tuple a o items m xs as' ho hc hd hi =>
      have hT : s.TypeIs (.ref a) "tuple" := ⟨o, ho, hc⟩
      unfold ofAClassStatement
      refine wpAny_bind (wpAny_typeOf hT ?_)
      show wpAny _ _ (pure true >>= _) _ _ s
      refine wpAny_bind (wpAny_pure ?_)
      simp only [Bool.not_true, Bool.false_eq_true, if_false]
      refine wpAny_bind (wpAny_seqItems ho hd ?_)
      dsimp only
      refine wpAny_bind ?_
      rw [← Array.forIn_toList]
      refine wpAny_forIn_list _ (fun rest r s' => r.1 = none ∧ s' = s ∧ ∃ (left : List PyData) (lb : List Addr), keyDs left = true ∧ PyData.depthAll left ≤ n ∧ ReadsAll s.heap rest left lb) _ ?_ ?_ _ _ ⟨rfl, rfl, ks, _, hk, by omega, hi⟩
      · rintro v rest r s' ⟨hr, rfl, left, lb, hl, hdp, hrd⟩
        cases hrd with
        | @cons _ _ d ds _ _ r1 rs =>
          rw [keyDs, Bool.and_eq_true] at hl
          rw [PyData.depthAll] at hdp
          refine wpAny_bind (keyNoClass n d _ _ _ _ hl.1 (by omega) r1 ?_)
          simp only [Bool.false_eq_true, if_false]
          exact wpAny_pure ⟨rfl, rfl, ds, _, hl.2, by omega, rs⟩
      · rintro ⟨r1, r2⟩ s' ⟨hr, rfl, _⟩
        simp only at hr
        subst hr
        exact wpAny_pure h
  | _, .none, _, _, _, _, h, _, _, _ => by simp [keyD] at h
  | _, .bool _, _, _, _, _, h, _, _, _ => by simp [keyD] at h
  | _, .list _, _, _, _, _, h, _, _, _ => by simp [keyD] at h
  | _, .dict _, _, _, _, _, h, _, _, _ => by simp [keyD] at h
theorem keyUnseen {s : Shared} {k : PyData} {b : Addr} (hx : (pdKind prog w).is s.heap k b) (l : List Value) (hl : ∀ v ∈ l, ∃ k' a', v = Value.ref a' ∧ (pdKind prog w).is s.heap k' a') {Q : Bool → Shared → Prop} (h : Q false s) : wpAny (model prog w) A (searchCouldBeSeen (.ref b) l) Q E s := by
  unfold searchCouldBeSeen
  refine wpAny_bind ?_
  refine wpAny_forIn_list _ (fun rest r s' => r.1 = none ∧ s' = s ∧ ∀ v ∈ rest, v ∈ l) _ ?_ ?_ _ _ ⟨rfl, rfl, fun v hv => hv⟩
  · rintro v rest r s' ⟨hr, rfl, hm⟩
    obtain ⟨k', a', rfl, h1, h2, as, r1⟩ := hl v (hm v List.mem_cons_self)
    obtain ⟨g1, g2, bs, q1⟩ := hx
    have hm2 : ∀ v ∈ rest, v ∈ l := fun v hv => hm v (List.mem_cons_of_mem _ hv)
    dsimp only
    split
    · exact wpAny_pure ⟨rfl, rfl, hm2⟩
    · refine wpAny_bind (keyQuiet 8 _ _ _ _ _ g1 g2 q1 ?_)
      simp only [Bool.not_true, Bool.false_eq_true, if_false]
      refine wpAny_bind (keyQuiet 8 _ _ _ _ _ h1 h2 r1 ?_)
      simp only [Bool.not_true, Bool.false_eq_true, if_false]
      refine wpAny_bind (keyNoClass 8 _ _ _ _ _ g1 g2 q1 ?_)
      simp only [Bool.false_eq_true, if_false]
      refine wpAny_bind (keyNoClass 8 _ _ _ _ _ h1 h2 r1 ?_)
      simp only [Bool.false_eq_true, if_false]
      exact wpAny_pure ⟨rfl, rfl, hm2⟩
  · rintro ⟨r1, r2⟩ s' ⟨hr, rfl, _⟩
    simp only at hr
    subst hr
    exact wpAny_pure h
end
structure SetT (w : World) (ys : List (PyData × Addr)) (es : Array (Int × Value)) (t : SetTable) : Prop where
  els : es.toList = ys.map fun y => (hashD w y.1, Value.ref y.2)
  tab : TabH t (ys.map fun y => hashD w y.1)
  few : ys.length * 5 < t.mask * 3
  led : t.led = !(w.params.followText "set-order")
theorem SetT.size {w : World} {ys : List (PyData × Addr)} {es : Array (Int × Value)} {t : SetTable} (T : SetT w ys es t) : es.size = ys.length := by rw [← Array.length_toList, T.els, List.length_map]
theorem SetT.at {w : World} {ys : List (PyData × Addr)} {es : Array (Int × Value)} {t : SetTable} (T : SetT w ys es t) (i : Nat) : es[i]? = (ys[i]?).map fun y => (hashD w y.1, Value.ref y.2) := by
  rw [← Array.getElem?_toList, T.els, List.getElem?_map]
theorem SetT.fits {w : World} {ys : List (PyData × Addr)} {es : Array (Int × Value)} {t : SetTable} (T : SetT w ys es t) : t.fits es.size = true := by
  have h1 := T.tab.len
  have h2 := T.tab.tab.dm
  have h3 := T.few
  have h4 := T.size
  rw [List.length_map] at h1
  unfold SetTable.fits SetTable.fill
  rw [h2, h1, h4]
  simp
  omega
theorem msk_odd {m : Nat} (h : Msk m) : (m % 2 == 0) = false := by
  rcases h with rfl | rfl | rfl <;> rfl
section
variable {prog : Program} {w : World} {A : Around} {E : Value → Shared → Prop} {s : Shared}
theorem led_T {α : Type} {led : Bool} {m : Sem Bool} {u : Sem PUnit} {K : Sem α} {Q : α → Shared → Prop} (hm : ∀ Q' : Bool → Shared → Prop, Q' false s → wpAny (model prog w) A m Q' E s) (hK : wpAny (model prog w) A K Q E s) : wpAny (model prog w) A (if (!led) = true then (do let b ← m; if b = true then (do u; K) else K) else K) Q E s := by
  cases led with
  | true => exact hK
  | false =>
    refine wpAny_bind (hm _ ?_)
    rw [if_neg Bool.false_ne_true]
    exact hK
theorem search_T {a b : Addr} {o : Obj} {es : Array (Int × Value)} {ep : Nat} {t : SetTable} {ys : List (PyData × Addr)} {k : PyData} (ho : s.heap.get? a = some o) (hd : o.data = .set es ep t) (T : SetT w ys es t) (hx : (pdKind prog w).is s.heap k b) (hys : ∀ y ∈ ys, (pdKind prog w).is s.heap y.1 y.2) (hu : A.units + 8 < cLine)
    {Q : SetFound → Shared → Prop} (hin : k ∈ ys.map (·.1) → Q (.there none) s) (hout : k ∉ ys.map (·.1) → ∀ s0, ¬ Occ t (pth0 t.mask (hashD w k) s0) → (∀ s', s' < s0 → Occ t (pth0 t.mask (hashD w k) s')) → Q (.free (pth0 t.mask (hashD w k) s0) false) s) :
    ∀ (n fuel c : Nat) (stand : Option Probe), stand.getD (t.probeStart (hashD w k)) = advN t.mask c (t.probeStart (hashD w k)) → (∀ s', s' < c → ∃ (i : Nat) (y : PyData × Addr), t.place[i]? = some (pth0 t.mask (hashD w k) s') ∧ ys[i]? = some y ∧ y.1 ≠ k) → (∃ s0, ¬ Occ t (pth0 t.mask (hashD w k) s0) ∧ s0 ≤ c + n) → n < fuel →
      wpAny (model prog w) A (setSearchFrom a (.ref b) (hashD w k) true fuel stand) Q E s := by
  have hf := T.fits
  have room : t.place.size ≤ t.mask := by
    have h1 := T.tab.len
    have h2 := T.few
    rw [List.length_map] at h1
    omega
  have inj : ∀ {i j x : Nat}, t.place[i]? = some x → t.place[j]? = some x → i = j := fun {i j x} h1 h2 => by
    rcases Nat.lt_trichotomy i j with z | z | z
    · have := T.tab.tab.ris i j x x z h1 h2
      omega
    · exact z
    · have := T.tab.tab.ris j i x x z h2 h1
      omega
  have yat : ∀ {i x : Nat}, t.place[i]? = some x → ∃ y, ys[i]? = some y := fun {i x} h1 => by
    have h2 := (Array.getElem?_eq_some_iff.mp h1).1
    have h3 := T.tab.len
    rw [List.length_map] at h3
    exact ⟨_, List.getElem?_eq_getElem (by omega)⟩
  intro n
  induction n using Nat.strongRecOn with
  | ind n ih =>
    rintro fuel c stand hst hc ⟨s0, hs0, hle⟩ hfu
    obtain ⟨f, rfl⟩ : ∃ f, fuel = f + 1 := ⟨fuel - 1, by omega⟩
    have pr := advN_pr c (start_pr (mask := 0) t (hashD w k))
    have pe : ∀ s', (advN t.mask s' (advN t.mask c (t.probeStart (hashD w k)))).j = pth0 t.mask (hashD w k) (c + s') := fun s' => by
      rw [← advN_add]
      rfl
    obtain ⟨met, e, M⟩ := probe_met T.tab.tab room (hashAt := fun i => ((es[i]?).map (·.1)).getD 0) (h := hashD w k) pr
    have hat : ∀ {i : Nat} {y : PyData × Addr}, ys[i]? = some y → ((es[i]?).map (·.1)).getD 0 = hashD w y.1 := fun {i y} hy => by
      rw [T.at i, hy]
      rfl
    have gw : t.gaveWay = false := msk_odd T.tab.tab.msk
    unfold setSearchFrom
    refine wpAny_bind (wpAny_setState_of ho hd hf ?_)
    dsimp only
    rw [gw, hst]
    simp only [Bool.false_eq_true, if_false]
    split
    rotate_left
    · rename_i hq
      exact (hq met e).elim
    rename_i met' hq
    obtain rfl : met' = met := Option.some.inj (hq.symm.trans e)
    cases M with
    | empty s1 a1 b1 =>
      dsimp only
      refine wpAny_pure ?_
      rw [pe] at b1 ⊢
      by_cases hk : k ∈ ys.map (·.1)
      · exfalso
        obtain ⟨y, hy, rfl⟩ := List.mem_map.mp hk
        obtain ⟨i, hi, ei⟩ := List.getElem_of_mem hy
        have hi' : ys[i]? = some y := by rw [List.getElem?_eq_getElem hi, ei]
        obtain ⟨s', h1, h2⟩ := on_way T.tab (i := i) (h := hashD w y.1) (by rw [List.getElem?_map, hi']; rfl) b1
        rcases Nat.lt_or_ge s' c with q | q
        · obtain ⟨i', y', g1, g2, g3⟩ := hc s' q
          have := inj g1 h2
          subst this
          rw [hi'] at g2
          cases g2
          exact g3 rfl
        · obtain ⟨i', g1, g2⟩ := a1 (s' - c) (by omega)
          rw [pe, show c + (s' - c) = s' by omega] at g1
          have := inj g1 h2
          subst this
          exact g2 (hat hi')
      · refine hout hk _ b1 fun s' hs' => ?_
        rcases Nat.lt_or_ge s' c with q | q
        · obtain ⟨i', y', g1, _⟩ := hc s' q
          exact ⟨i', g1⟩
        · obtain ⟨i', g1, _⟩ := a1 (s' - c) (by omega)
          rw [pe, show c + (s' - c) = s' by omega] at g1
          exact ⟨i', g1⟩
    | cand s1 i a1 b1 c1 =>
      obtain ⟨y, hy⟩ := yat b1
      have hyin := List.mem_of_getElem? hy
      have esi : es[i]? = some (hashD w y.1, Value.ref y.2) := by rw [T.at i, hy]; rfl
      have b2 : t.place[i]? = some (pth0 t.mask (hashD w k) (c + s1)) := by rw [← pe]; exact b1
      have sl := slot_live T.tab.tab b1
      have sm : t.sameMemory t.moves t.mask = some true := by
        unfold sameMemory
        simp
      have cont : ∀ {Q' : SetFound → Shared → Prop}, y.1 ≠ k → wpAny (model prog w) A (setSearchFrom a (.ref b) (hashD w k) true f (some (advN t.mask (s1 + 1) (advN t.mask c (t.probeStart (hashD w k)))))) Q E s := fun {Q'} hne => by
        have lt : c + s1 < s0 := by
          rcases Nat.lt_or_ge (c + s1) s0 with q | q
          · exact q
          · exfalso
            rcases Nat.lt_or_eq_of_le q with q | q
            · rcases Nat.lt_or_ge s0 c with z | z
              · obtain ⟨i', y', g1, _⟩ := hc s0 z
                exact hs0 ⟨i', g1⟩
              · obtain ⟨i', g1, _⟩ := a1 (s0 - c) (by omega)
                rw [pe, show c + (s0 - c) = s0 by omega] at g1
                exact hs0 ⟨i', g1⟩
            · rw [q] at hs0
              exact hs0 ⟨i, b2⟩
        refine ih (n - (s1 + 1)) (by omega) f (c + (s1 + 1)) _ ?_ (fun s' hs' => ?_) ⟨s0, hs0, by omega⟩ (by omega)
        · show advN t.mask (s1 + 1) (advN t.mask c (t.probeStart (hashD w k))) = _
          rw [← advN_add]
        · rcases Nat.lt_or_ge s' c with q | q
          · exact hc s' q
          · rcases Nat.lt_or_ge s' (c + s1) with z | z
            · obtain ⟨i', g1, g2⟩ := a1 (s' - c) (by omega)
              rw [pe, show c + (s' - c) = s' by omega] at g1
              obtain ⟨y', hy'⟩ := yat g1
              refine ⟨i', y', g1, hy', fun ek => g2 ?_⟩
              rw [← ek]
              exact hat hy'
            · rw [show s' = c + s1 by omega]
              exact ⟨i, y, b2, hy, hne⟩
      dsimp only
      refine led_T (fun Q' hq' => keyUnseen hx _ (fun v hv => ?_) hq') ?_
      · obtain ⟨e1, he1, rfl⟩ := List.mem_map.mp hv
        have he2 : e1 ∈ es.toList := Array.mem_toList_iff.mpr (Array.mem_filter.mp (Array.mem_toList_iff.mp he1)).1
        rw [T.els] at he2
        obtain ⟨y', hy', rfl⟩ := List.mem_map.mp he2
        exact ⟨y'.1, y'.2, rfl, hys y' hy'⟩
      rw [esi]
      dsimp only
      refine wpAny_bind (wpAny_holding ((pdKind prog w).eqBool (show (pdKind prog w).room A from hu) (hys y hyin) hx ?_))
      refine wpAny_bind (wpAny_setState_of ho hd hf ?_)
      dsimp only
      by_cases ek : y.1 = k
      · rw [decide_eq_true ek]
        simp only [Bool.and_self, if_true]
        exact wpAny_pure (hin (List.mem_map.mpr ⟨y, hyin, ek⟩))
      · rw [decide_eq_false ek, sm]
        simp only [Bool.and_false, Bool.false_eq_true, if_false, if_true]
        rw [sl]
        dsimp only
        rw [esi]
        dsimp only
        refine wpAny_bind (wpAny_isSame_ref_self (wpAny_bind (wpAny_pure ?_)))
        simp only [if_true]
        exact cont (Q' := Q) ek
def SetX (w : World) (a : Addr) (ys : List (PyData × Addr)) (h : Heap) : Prop := ∃ o es ep t, h.get? a = some o ∧ o.ExactSet ∧ o.data = .set es ep t ∧ SetT w ys es t
theorem TabH.flat {t : SetTable} {hs : List Int} (H : TabH t hs) : TabH { t with plain := false } hs := ⟨⟨H.tab.msk, H.tab.dm, H.tab.ris, H.tab.le⟩, H.len, H.pth⟩
theorem insL_map {α β : Type} (f : α → β) (l : List α) (p : Nat) (x : α) : (insL l p x).map f = insL (l.map f) p (f x) := by
  unfold insL
  rw [List.map_append, List.map_cons, List.map_take, List.map_drop]
theorem insL_perm {α : Type} (l : List α) (p : Nat) (x : α) : (insL l p x).Perm (x :: l) := by
  unfold insL
  refine List.perm_middle.trans ?_
  rw [List.take_append_drop]
theorem insL_len {α : Type} (l : List α) (p : Nat) (x : α) : (insL l p x).length = l.length + 1 := (insL_perm l p x).length_eq
theorem grows {m n : Nat} (hm : Msk m) (h1 : (n - 1) * 5 < m * 3) (h0 : 1 ≤ n) (h2 : n * 5 ≥ m * 3) (h3 : n ≤ 64) : Msk (sizeAbove (grown n) - 1) ∧ n ≤ sizeAbove (grown n) - 1 ∧ n * 5 < (sizeAbove (grown n) - 1) * 3 ∧ sizeAbove (grown n) ≤ sizeLine := by
  have hn : (m = 7 ∧ n = 5) ∨ (m = 31 ∧ n = 19) := by
    rcases hm with rfl | rfl | rfl
    · left; omega
    · right; omega
    · omega
  rcases hn with ⟨rfl, rfl⟩ | ⟨rfl, rfl⟩
  · have e : sizeAbove (grown 5) = 32 := by decide +kernel
    rw [e]
    exact ⟨.inr (.inl rfl), by omega, by omega, by decide⟩
  · have e : sizeAbove (grown 19) = 128 := by decide +kernel
    rw [e]
    exact ⟨.inr (.inr rfl), by omega, by omega, by decide⟩
theorem add_T {a b : Addr} {o : Obj} {es : Array (Int × Value)} {ep : Nat} {t : SetTable} {ys : List (PyData × Addr)} {k : PyData} (ho : s.heap.get? a = some o) (hex : o.ExactSet) (hd : o.data = .set es ep t) (T : SetT w ys es t) (hx : (pdKind prog w).is s.heap k b) (hys : ∀ y ∈ ys, (pdKind prog w).is s.heap y.1 y.2) (hu : A.units + 8 < cLine) (h64 : ys.length < 64)
    {Q : Bool → Shared → Prop} (hin : k ∈ ys.map (·.1) → Q false s) (hout : k ∉ ys.map (·.1) → ∀ h' ys', Heap.SameBut a s.heap h' → SetX w a ys' h' → ys'.Perm ((k, b) :: ys) → Q true { s with heap := h' }) : wpAny (model prog w) A (setAddHashed a (.ref b) (hashD w k)) Q E s := by
  have hf := T.fits
  have room : t.place.size ≤ t.mask := by
    have h1 := T.tab.len
    have h2 := T.few
    rw [List.length_map] at h1
    omega
  have mle : t.mask ≤ 127 := by rcases T.tab.tab.msk with h | h | h <;> omega
  obtain ⟨e0, he0, hn0⟩ := some_free T.tab.tab room
  obtain ⟨s0, hs0, hj0⟩ := meets_all T.tab.tab.msk (start_pr (mask := 0) t (hashD w k)) he0
  unfold setAddHashed setAddHashedIn
  refine wpAny_holding (wpAny_bind (wpAny_setState_of ho hd hf ?_))
  dsimp only
  have bs : byScan (.ref b) es = false := rfl
  rw [bs]
  simp only [Bool.false_eq_true, if_false]
  unfold setSearch
  refine wpAny_bind (search_T ho hd T hx hys hu (fun hk => ?_) (fun hk s1 n1 o1 => ?_) (10 * (t.mask + 14)) 100000 0 none rfl (fun s' hs' => by omega) ⟨s0, by rw [show pth0 t.mask (hashD w k) s0 = e0 from hj0]; exact hn0, by omega⟩ (by omega))
  · exact wpAny_pure (hin hk)
  · dsimp only
    refine wpAny_bind (wpAny_setState_of ho hd hf ?_)
    dsimp only
    obtain ⟨H, hp, hmask, hmv⟩ := put_ok T.tab n1 o1
    have hld : (t.put (pth0 t.mask (hashD w k) s1)).1.led = t.led := rfl
    rw [← insL_map (fun y : PyData × Addr => hashD w y.1) ys (t.put (pth0 t.mask (hashD w k) s1)).2 (k, b)] at H
    rw [List.length_map] at hp
    generalize t.put (pth0 t.mask (hashD w k) s1) = tp at H hp hmask hmv hld
    obtain ⟨t1, p⟩ := tp
    dsimp only at H hp hmask hmv hld ⊢
    have els : (insertAt es p (hashD w k, Value.ref b)).toList = (insL ys p (k, b)).map fun y => (hashD w y.1, Value.ref y.2) := by
      rw [toList_insertAt, insL_map, T.els]
      rfl
    have esz : (insertAt es p (hashD w k, Value.ref b)).size = ys.length + 1 := by rw [← Array.length_toList, els, List.length_map, insL_len]
    have few := T.few
    have tail : ∀ t2 : SetTable, TabH t2 ((insL ys p (k, b)).map fun y => hashD w y.1) → t2.mask = t.mask → t2.led = t.led → wpAny (model prog w) A (do
        storeSet a (insertAt es p (hashD w k, Value.ref b)) t2
        if (!false && t2.tooFull) = true then setRelay a (SetTable.grown (es.size + 1))
        pure true) Q E s := fun t2 H2 hm2 hl2 => by
      have h1 := H2.len
      rw [List.length_map, insL_len] at h1
      have fl : t2.fill = ys.length + 1 := by
        unfold SetTable.fill
        rw [h1, H2.tab.dm]
        rfl
      refine wpAny_bind (wpAny_storeSet_of ho hd ?_ (by rw [esz, sizeLine_eq]; omega))
      have hg : (s.heap.update a (Obj.putSet (insertAt es p (hashD w k, Value.ref b)) t2)).get? a = some { o with data := .set (insertAt es p (hashD w k, Value.ref b)) (ep + 1) t2 } := by
        have := Heap.get?_update_self (Obj.putSet (insertAt es p (hashD w k, Value.ref b)) t2) ho (by rw [putSet_of _ t2 hd]; rfl)
        rw [putSet_of _ t2 hd] at this
        exact this
      have hsb1 := Heap.SameBut.update s.heap a (Obj.putSet (insertAt es p (hashD w k, Value.ref b)) t2)
      by_cases tf : t2.tooFull = true
      · rw [tf]
        simp only [Bool.not_false, Bool.and_self, if_true]
        have tf' : (ys.length + 1) * 5 ≥ t.mask * 3 := by
          unfold SetTable.tooFull at tf
          rw [fl, hm2] at tf
          exact of_decide_eq_true tf
        obtain ⟨g1, g2, g3, g4⟩ := grows (n := ys.length + 1) T.tab.tab.msk (by omega) (by omega) tf' (by omega)
        have hfit : t2.fits (insertAt es p (hashD w k, Value.ref b)).size = true := by
          unfold SetTable.fits
          rw [fl, esz, h1, hm2]
          simp
          rcases T.tab.tab.msk with q | q | q <;> omega
        unfold setRelay
        refine wpAny_bind (wpAny_bind (wpAny_setState_of hg rfl hfit ?_))
        dsimp only
        rw [T.size, if_neg (by omega)]
        have hh : (insertAt es p (hashD w k, Value.ref b)).map (·.1) = ((insL ys p (k, b)).map fun y => hashD w y.1).toArray := by
          apply Array.toList_inj.mp
          rw [Array.toList_map, els, List.map_map]
          rfl
        obtain ⟨t3, order, l1, l2, l3, l4, l5, l6⟩ := laid_ok (mask := sizeAbove (grown (ys.length + 1)) - 1) (hs := (insL ys p (k, b)).map fun y => hashD w y.1) g1 (by rw [List.length_map, insL_len]; exact g2) t2.finger (t2.movedTo (sizeAbove (grown (ys.length + 1)) - 1)) t2.led t2.plain
        have rl : t2.relaid ((insertAt es p (hashD w k, Value.ref b)).map (·.1)) (grown (ys.length + 1)) = some (t3, order) := by
          unfold SetTable.relaid
          rw [hh]
          exact l1
        rw [List.length_map, insL_len] at l5
        have olt : ∀ x ∈ order.toList, x < ys.length + 1 := fun x hx => List.mem_range.mp (l5.mem_iff.mp hx)
        have fm : (order.filterMap ((insertAt es p (hashD w k, Value.ref b))[·]?)).toList = (order.toList.map fun x => (insL ys p (k, b)).getD x (k, b)).map fun y => (hashD w y.1, Value.ref y.2) := by
          rw [Array.toList_filterMap, List.map_map]
          generalize order.toList = ol at olt
          induction ol with
          | nil => rfl
          | cons x ol ih =>
            have hx := olt x List.mem_cons_self
            have gx : (insertAt es p (hashD w k, Value.ref b))[x]? = some (hashD w ((insL ys p (k, b)).getD x (k, b)).1, Value.ref ((insL ys p (k, b)).getD x (k, b)).2) := by
              rw [← Array.getElem?_toList, els, List.getElem?_map, List.getD_eq_getElem?_getD, List.getElem?_eq_getElem (by rw [insL_len]; exact hx)]
              rfl
            rw [List.filterMap_cons_some gx, ih fun z hz => olt z (List.mem_cons_of_mem _ hz)]
            rfl
        have fs : (order.filterMap ((insertAt es p (hashD w k, Value.ref b))[·]?)).size = (insertAt es p (hashD w k, Value.ref b)).size := by
          rw [← Array.length_toList, fm, List.length_map, List.length_map, l5.length_eq, List.length_range, esz]
        rw [rl]
        refine wpAny_bind ?_
        show wpAny _ _ (if ((order.filterMap ((insertAt es p (hashD w k, Value.ref b))[·]?)).size != (insertAt es p (hashD w k, Value.ref b)).size) = true then _ else _) _ _ _
        rw [fs, if_neg (by simp)]
        refine wpAny_pure ?_
        dsimp only
        refine wpAny_storeSet_of hg rfl ?_ (by rw [fs, esz, sizeLine_eq]; omega)
        refine wpAny_pure ?_
        have ylen : (order.toList.map fun x => (insL ys p (k, b)).getD x (k, b)).length = ys.length + 1 := by rw [List.length_map, l5.length_eq, List.length_range]
        have hm : (order.toList.map fun x => (insL ys p (k, b)).getD x (k, b)).map (fun y => hashD w y.1) = order.toList.map fun x => ((insL ys p (k, b)).map fun y => hashD w y.1).getD x 0 := by
          rw [List.map_map]
          refine List.map_congr_left fun x hx => ?_
          have hx := olt x hx
          show hashD w ((insL ys p (k, b)).getD x (k, b)).1 = _
          rw [List.getD_eq_getElem?_getD, List.getD_eq_getElem?_getD, List.getElem?_map, List.getElem?_eq_getElem (by rw [insL_len]; exact hx)]
          rfl
        have pm : (order.toList.map fun x => (insL ys p (k, b)).getD x (k, b)).Perm ((k, b) :: ys) := by
          refine List.Perm.trans ?_ (insL_perm ys p (k, b))
          have q := l5.map fun x => (insL ys p (k, b)).getD x (k, b)
          have e : (List.range (ys.length + 1)).map (fun x => (insL ys p (k, b)).getD x (k, b)) = insL ys p (k, b) := by
            refine List.ext_getElem (by rw [List.length_map, List.length_range, insL_len]) fun i h1 h2 => ?_
            rw [List.getElem_map, List.getElem_range, List.getD_eq_getElem?_getD, List.getElem?_eq_getElem h2]
            rfl
          rw [e] at q
          exact q
        refine hout hk _ _ (hsb1.trans (Heap.SameBut.update _ a _)) ⟨_, _, ep + 1 + 1, t3, Heap.get?_update_self (Obj.putSet (order.filterMap ((insertAt es p (hashD w k, Value.ref b))[·]?)) t3) hg (by rw [putSet_of _ t3 rfl]; rfl), ?_, ?_, ⟨fm, ?_, ?_, by rw [l4, hl2]; exact T.led⟩⟩ pm
        · rw [putSet_of _ t3 rfl]
          exact hex
        · rw [putSet_of _ t3 rfl]
        · rw [hm]
          exact l6
        · rw [ylen, l2]
          exact g3
      · have tf : t2.tooFull = false := by simpa using tf
        rw [tf]
        simp only [Bool.not_false, Bool.and_false, Bool.false_eq_true, if_false]
        refine wpAny_pure (hout hk _ (insL ys p (k, b)) hsb1 ⟨_, _, _, t2, hg, hex, rfl, ⟨els, H2, ?_, by rw [hl2]; exact T.led⟩⟩ (insL_perm _ _ _))
        rw [insL_len, hm2]
        unfold SetTable.tooFull at tf
        rw [fl, hm2] at tf
        have := of_decide_eq_false tf
        omega
    obtain ⟨g1, g2, bs', q1⟩ := id hx
    have fin : ∀ byv : Bool, wpAny (model prog w) A (do
        storeSet a (insertAt es p (hashD w k, Value.ref b)) (if byv = true then t1 else { t1 with plain := false })
        if (!false && (if byv = true then t1 else { t1 with plain := false }).tooFull) = true then setRelay a (SetTable.grown (es.size + 1))
        pure true) Q E s := fun byv => by
      cases byv with
      | true => exact tail t1 H hmask hld
      | false => exact tail { t1 with plain := false } H.flat hmask hld
    cases hpl : t1.plain with
    | true =>
      simp only [if_true]
      refine wpAny_bind (keyByValue 8 _ _ _ _ _ g1 g2 q1 fun byv => ?_)
      exact fin byv
    | false =>
      simp only [Bool.false_eq_true, if_false]
      refine wpAny_bind (wpAny_pure ?_)
      exact fin true
end
end L2
namespace L2
open PySem PySem.Spec PyProof.Rows PySem.SetTable
def Kept (h h' : Heap) : Prop := ∀ (b : Addr) (o : Obj), h.get? b = some o → h'.get? b = some o
mutual
theorem reads_kept {h h' : Heap} (q : Kept h h') : ∀ (d : PyData) (v : Value) (as : List Addr), keyD d = true → Reads h v d as → Reads h' v d as
  | .int _, _, _, _, r => by cases r; exact .int _ _
  | .str _, _, _, _, r => by cases r; exact .str _ _
  | .tuple xs, _, _, hk, r => by
    rw [keyD] at hk
    cases r with
    | tuple h1 h2 h3 h4 => exact .tuple (q _ _ h1) h2 h3 (readsAll_kept q xs _ _ hk h4)
  | .none, _, _, z, _ => by simp [keyD] at z
  | .bool _, _, _, z, _ => by simp [keyD] at z
  | .list _, _, _, z, _ => by simp [keyD] at z
  | .dict _, _, _, z, _ => by simp [keyD] at z
theorem readsAll_kept {h h' : Heap} (q : Kept h h') : ∀ (d : List PyData) (v : List Value) (as : List Addr), keyDs d = true → ReadsAll h v d as → ReadsAll h' v d as
  | [], _, _, _, r => by cases r; exact .nil
  | x :: xs, _, _, hk, r => by
    rw [keyDs, Bool.and_eq_true] at hk
    cases r with
    | cons r rs => exact .cons (reads_kept q x _ _ hk.1 r) (readsAll_kept q xs _ _ hk.2 rs)
end
section
variable {prog : Program} {w : World}
theorem key_kept {h h' : Heap} (q : Kept h h') {d : PyData} {a : Addr} (k : (pdKind prog w).is h d a) : (pdKind prog w).is h' d a := by
  obtain ⟨k1, k2, as, r⟩ := k
  exact ⟨k1, k2, as, reads_kept q d _ _ k1 r⟩
def Far (prog : Program) (w : World) (h0 : Heap) (S : Addr) (kk : Nat → PyData) (ad : Nat → Addr) (i : Nat) (h : Heap) : Prop :=
  ∃ ys : List (PyData × Addr), SetX w S ys h ∧ (ys.map (·.1)).Nodup ∧ (∀ y ∈ ys, (pdKind prog w).is h0 y.1 y.2) ∧ (∀ d, d ∈ ys.map (·.1) ↔ ∃ j, j < i ∧ kk j = d) ∧ ys.length ≤ i ∧ ∀ y ∈ ys, ∃ j, j < i ∧ y = (kk j, ad j)
theorem SetX.moved {S : Addr} {ys : List (PyData × Addr)} {h h' : Heap} (X : SetX w S ys h) (e : ∀ o, h.get? S = some o → h'.get? S = some o) : SetX w S ys h' := by
  obtain ⟨o, es, ep, t, ho, r⟩ := X
  exact ⟨o, es, ep, t, e o ho, r⟩
theorem fill_T {A : Around} {R : Result → Shared → Prop} {I S : Addr} {fp wr : List Addr} {G : Array GenState → Array GenState → Prop} {n : Nat} {P : Nat → Value → Prop} {St : Nat → Shared → Prop} (W : WalksS prog w A.in1 I fp wr G n P St) (hSf : S ∉ fp)
    {h0 : Heap} {kk : Nat → PyData} {ad : Nat → Addr} (hP : ∀ i v, P i v → v = .ref (ad i)) (hk : ∀ i, i < n → (pdKind prog w).is h0 (kk i) (ad i)) (hn : n ≤ 64) (hu : A.units + 16 < cLine) (h0S : h0.get? S = none) (h0w : ∀ b ∈ wr, h0.get? b = none) :
    ∀ (m i : Nat) (s : Shared), n - i = m → i ≤ n → St i s → Kept h0 s.heap → Far prog w h0 S kk ad i s.heap →
      (∀ s', Moved (S :: wr) G s s' → Kept h0 s'.heap → Far prog w h0 S kk ad n s'.heap → R (.ok (.ret .none)) s') → codeAny (model prog w) A (.builtin "set.update.loop" ⟨[.ref S, .ref I], []⟩) R s := by
  have hSw : S ∉ wr := fun z => hSf (W.sub _ z)
  have more : ∀ b ∈ wr, b ∈ S :: wr := fun b z => List.mem_cons_of_mem _ z
  have keepM : ∀ {s s' : Shared}, Moved wr G s s' → Kept h0 s.heap → Kept h0 s'.heap := fun {s s'} mv q b o e => mv.heap b o (fun z => by rw [h0w b z] at e; cases e) (q b o e)
  intro m
  induction m with
  | zero =>
    intro i s hm hi st q far hR
    obtain rfl : i = n := by omega
    refine codeAny_builtin F.entry_set_update_loop ?_
    rw [Around.under_plainId F.plain_set_update_loop _]
    show wpAny _ A.in1 (pyNext (.ref I) >>= _) _ _ s
    refine wpAny_bind (W.done s _ _ st fun s' mv => ?_)
    show wpAny _ A.in1 (ret Value.none) _ _ s'
    refine wpAny_pure (hR s' (mv.mono more) (keepM mv q) ?_)
    obtain ⟨ys, X, r⟩ := far
    exact ⟨ys, X.moved fun o e => mv.heap S o hSw e, r⟩
  | succ m ih =>
    intro i s hm hi st q far hR
    have hlt : i < n := by omega
    refine codeAny_builtin F.entry_set_update_loop ?_
    rw [Around.under_plainId F.plain_set_update_loop _]
    show wpAny _ A.in1 (pyNext (.ref I) >>= _) _ _ s
    refine wpAny_bind (W.item i s _ _ hlt st fun v s' pv st' mv => ?_)
    obtain rfl := hP i v pv
    have q' := keepM mv q
    obtain ⟨ys, X, nd, hy, hm2, hl, hj0⟩ := far
    obtain ⟨o, es, ep, t, ho, hex, hd, T⟩ := X.moved fun o e => mv.heap S o hSw e
    show wpAny _ A.in1 (holding [Value.ref (ad i)] (setAdd S (.ref (ad i))) >>= _) _ _ s'
    refine wpAny_bind (wpAny_holding ?_)
    unfold setAdd
    refine wpAny_holding ?_
    have hki := hk i hlt
    refine wpAny_bind ((pdKind prog w).pyHash (show (pdKind prog w).room A.in1 from by show A.units + 1 + 8 < cLine; omega) (key_kept q' hki) ?_)
    have hT : ∀ y ∈ ys, (pdKind prog w).is s'.heap y.1 y.2 := fun y z => key_kept q' (hy y z)
    refine add_T (s := { s' with toks := s'.toks + (pdKind prog w).draws (kk i) }) ho hex hd T (key_kept q' hki) hT (by show A.units + 1 + 8 < cLine; omega) (by omega) (fun z => ?_) (fun z h' ys' sb X' pm => ?_)
    · refine wpAny_pure ⟨plainId_quiet F.plain_set_update_loop _, ih (i + 1) _ (by omega) hlt (W.frame _ s' _ _ st' (Nat.le_add_right _ _) fun b _ o e => e) q' ⟨ys, ⟨o, es, ep, t, ho, hex, hd, T⟩, nd, hy, fun d => ?_, by omega, fun y hy' => (hj0 y hy').imp fun j z => ⟨by omega, z.2⟩⟩ fun s2 mv2 k2 f2 => ?_⟩
      · rw [hm2]
        constructor
        · rintro ⟨j, hj, e⟩
          exact ⟨j, by omega, e⟩
        · rintro ⟨j, hj, e⟩
          rcases Nat.lt_or_ge j i with y | y
          · exact ⟨j, y, e⟩
          · obtain rfl : j = i := by omega
            obtain ⟨j', g1, g2⟩ := (hm2 _).mp z
            exact ⟨j', g1, g2.trans e⟩
      · exact hR s2 (Moved.trans W.gtrans ((mv.mono more).then_heap (Nat.le_add_right _ _) fun b o _ e => e) mv2) k2 f2
    · have kept2 : Kept h0 h' := fun b o e => by
        rw [sb.2 b fun y => by rw [y, h0S] at e; cases e]
        exact q' b o e
      refine wpAny_pure ⟨plainId_quiet F.plain_set_update_loop _, ih (i + 1) _ (by omega) hlt (W.frame _ s' _ _ st' (Nat.le_add_right _ _) fun b hb o e => ?_) kept2 ⟨ys', X', ?_, fun y hy' => ?_, fun d => ?_, ?_, fun y hy' => ?_⟩ fun s2 mv2 k2 f2 => ?_⟩
      · rw [sb.2 b fun y => hSf (by rw [← y]; exact hb)]
        exact e
      · exact ((pm.map (·.1)).nodup_iff).mpr (List.nodup_cons.mpr ⟨z, nd⟩)
      · rcases List.mem_cons.mp (pm.mem_iff.mp hy') with rfl | hy'
        · exact hki
        · exact hy y hy'
      · rw [(pm.map (·.1)).mem_iff, List.map_cons, List.mem_cons, hm2]
        constructor
        · rintro (e | ⟨j, hj, e⟩)
          · exact ⟨i, by omega, e.symm⟩
          · exact ⟨j, by omega, e⟩
        · rintro ⟨j, hj, e⟩
          rcases Nat.lt_or_ge j i with y | y
          · exact .inr ⟨j, y, e⟩
          · obtain rfl : j = i := by omega
            exact .inl e.symm
      · rw [pm.length_eq, List.length_cons]
        omega
      · rcases List.mem_cons.mp (pm.mem_iff.mp hy') with rfl | hy'
        · exact ⟨i, by omega, rfl⟩
        · exact (hj0 y hy').imp fun j z => ⟨by omega, z.2⟩
      · refine hR s2 (Moved.trans W.gtrans ((mv.mono more).then_heap (Nat.le_add_right _ _) fun b o hb e => ?_) mv2) k2 f2
        rw [sb.2 b fun y => hb (by rw [y]; exact List.mem_cons_self)]
        exact e
abbrev newS (led : Bool) : Obj := { cls := .type "set", dict := none, data := .set #[] 0 (.fresh 0 0 led) }
theorem far_none {h0 h : Heap} {S : Addr} {kk : Nat → PyData} {ad : Nat → Addr} {led : Bool} (hled : led = !(w.params.followText "set-order")) (g : h.get? S = some (newS led)) : Far prog w h0 S kk ad 0 h := by
  refine ⟨[], ⟨_, #[], 0, .fresh 0 0 led, g, ⟨rfl, rfl, rfl⟩, rfl, ⟨rfl, ⟨⟨.inl rfl, rfl, fun a b x y _ q => ?_, fun i j q => ?_⟩, rfl, fun i j c q => ?_⟩, by show 0 * 5 < 7 * 3; decide, hled⟩⟩, List.nodup_nil, (fun y z => nomatch z), (fun d => ⟨(fun z => nomatch z), (fun ⟨j, z, _⟩ => absurd z (Nat.not_lt_zero _))⟩), Nat.le_refl _, (fun y z => nomatch z)⟩
  · have q : (#[] : Array Nat)[a]? = some x := q
    simp at q
  · have q : (#[] : Array Nat)[i]? = some j := q
    simp at q
  · simp at q
theorem code_set_newL {A : Around} {E : Value → Shared → Prop} {s : Shared} (a : Value) {Q₁ : Value → Shared → Prop} (h : Q₁ (.ref s.heap.objs.size) { s with heap := s.heap.push (newS (!(w.params.followText "set-order"))) }) :
    codeAny (model prog w) A (.call (.builtin "set.__new__") ⟨[.type "set", a], []⟩) (wants Q₁ E) s := by
  refine codeAny_of_tree ?_
  show wpAny _ A.in1 (do checkBuiltinCall "set.__new__" ⟨[.type "set", a], []⟩; again (.builtin "set.__new__" ⟨[.type "set", a], []⟩)) _ _ s
  refine wpAny_bind (wpAny_of_eq (F.newCall_set_1 a) (wpAny_pure ⟨plainId_quiet F.plain_set_new _, codeAny_builtin F.entry_set_new ?_⟩))
  rw [Around.under_plainId F.plain_set_new _]
  unfold Builtin.«set.__new__» Builtin.Frozenset.newClass
  have hsub := sub_set_self
  obtain ⟨hp, g, d, tk, os⟩ := s
  dsimp only
  wp_walk
  refine wpAny_askSetting (wpAny_pure ?_)
  dsimp only
  simp only [newObj]
  refine wpAny_bind (wpAny_alloc (wpAny_pure ?_))
  exact wpAny_pure h
set_option maxHeartbeats 3200000 in
theorem call_setT {A : Around} {E : Value → Shared → Prop} {s : Shared} {l : Addr} {vs : Array Value} {kk : Nat → PyData} {ad : Nat → Addr} {Q : Value → Shared → Prop} (noh : A.handled = none) (isl : s.heap.IsList l vs) (hit : ∀ (i : Nat) (v : Value), vs[i]? = some v → v = .ref (ad i)) (hk : ∀ i, i < vs.size → (pdKind prog w).is s.heap (kk i) (ad i)) (few : vs.size ≤ 64) (hu : A.units + 64 < cLine)
    (fin : ∀ (h' : Heap) (tk : Nat), Far prog w s.heap s.heap.objs.size kk ad vs.size h' → Kept s.heap h' → Q (.ref s.heap.objs.size) { s with heap := h', toks := tk }) : wpAny (model prog w) A (call (.type "set") [.ref l]) Q E s := by
  obtain ⟨mc, mt, isMro⟩ := F.called_set.mro
  have isMade := F.called_set.made
  have isSub := F.called_set.sub
  refine wpAny_call (codeAny_of_tree ?_)
  show wpAny _ _ (callAny (.type "set") _) _ _ _
  refine wpAny_pure ⟨Code.quiet_builtin _ (by decide +kernel), codeAny_builtin F.entry_type_call ?_⟩
  rw [Around.under_plain (weight_type_call_type "set" [.ref l] []) rfl]
  have isT := F.called_set.notType
  have isC := F.called_set.canCreate
  have isA := F.typeCall_set_1 (.ref l)
  repeat (any_goals (first | assumption | wp_step))
  refine codeAny_mono (code_set_newL (.ref l) (E := E) (Q₁ := fun v s1 => ∃ led : Bool, led = (!(w.params.followText "set-order")) ∧ v = .ref s.heap.objs.size ∧ s1 = { s with heap := s.heap.push (newS led) }) ⟨_, rfl, rfl, rfl⟩) fun r1 s1 g1 => ?_
  cases r1 with
  | error e1 => exact g1
  | ok f1 =>
    cases f1 with
    | ret v1 =>
      obtain ⟨led, hled, rfl, rfl⟩ := g1
      have at0 : (s.heap.push (newS led)).get? s.heap.objs.size = some (newS led) := Heap.get?_push_size _ rfl
      have ty0 : Shared.TypeIs { s with heap := s.heap.push (newS led) } (.ref s.heap.objs.size) "set" := ⟨_, at0, rfl⟩
      have lo0 := F.called_set.init.lookup
      have bi0 := F.called_set.init.bind (.ref s.heap.objs.size)
      repeat (any_goals (first | assumption | wp_step))
      refine codeAny_mono (codeAny_call_builtin (R := wants (fun v2 s2 => v2 = .none ∧ ∃ h' tk, s2 = { s with heap := h', toks := tk } ∧ Far prog w s.heap s.heap.objs.size kk ad vs.size h' ∧ Kept s.heap h') E) F.called_set.init.plain F.entry_set_init (check_set_init_1 ty0 ?_)) fun r2 s2 g2 => ?_
      · obtain ⟨⟨oc, od, ox, os⟩, lo, lc, ln, ld⟩ := isl
        dsimp only at lc ld
        subst lc ld
        have lo1 : (s.heap.push (newS led)).get? l = some { cls := .type "list", dict := od, data := .seq vs ln, slots := os } := Heap.get?_push_of_some _ lo
        have no1 := F.sub_list_set
        have no2 := F.sub_list_frozenset
        have no3 : (Value.type "list" == Value.type "dict") = false := by decide
        have isl1 : (s.heap.push (newS led)).IsList l vs := ⟨_, lo1, rfl, ln, rfl⟩
        unfold Builtin.«set.__init__» noKeywords Builtin.Frozenset.updateFrom
        generalize keepI : pyIter = It
        wp_walk
        subst keepI
        refine wpAny_pyIter_list isl1 ?_
        refine wpAny_bind (wpAny_runValue ?_)
        have lt0 : l < s.heap.objs.size := Heap.lt_size lo
        have noh3 : A.in1.in1.in1.handled = none := by simp [noh]
        have sz1 : (s.heap.push (newS led)).objs.size = s.heap.objs.size + 1 := Heap.size_push _ _
        have notI : l ≠ (s.heap.push (newS led)).objs.size := by
          rw [sz1]
          exact Nat.ne_of_lt (Nat.lt_succ_of_lt lt0)
        have notF : s.heap.objs.size ∉ [(s.heap.push (newS led)).objs.size, l] := by
          rw [sz1]
          simp only [List.mem_cons, List.not_mem_nil, or_false, not_or]
          exact ⟨Nat.ne_of_lt (Nat.lt_succ_self _), Nat.ne_of_gt lt0⟩
        have none_at : ∀ b : Nat, s.heap.objs.size ≤ b → s.heap.get? b = none := fun b hb => by
          cases q : s.heap.get? b with
          | none => rfl
          | some o => exact absurd (Heap.lt_size q) (Nat.not_lt.mpr hb)
        refine fill_T ((Walks.list noh3 _ l notI vs).toS) notF hit hk few (by show A.units + 1 + 1 + 16 < cLine; omega) (none_at _ (Nat.le_refl _)) (fun b hb => ?_) (vs.size - 0) 0 _ (by omega) (Nat.zero_le _) ⟨⟨_, Heap.get?_push_size _ rfl, rfl, rfl⟩, (isl1.push _)⟩ (fun b o e => Heap.get?_push_of_some _ (Heap.get?_push_of_some _ e)) (far_none hled (Heap.get?_push_of_some _ at0)) ?_
        · have hb : b ∈ [(s.heap.push (newS led)).objs.size] := hb
          rw [List.mem_singleton.mp hb, sz1]
          exact none_at _ (Nat.le_succ _)
        · intro s3 mv k3 f3
          obtain ⟨h3, g3, d3, t3, o3⟩ := s3
          obtain rfl : g3 = s.gens := mv.gens
          obtain rfl : d3 = s.drawn := mv.drawn
          obtain rfl : o3 = s.os := mv.os
          show wpAny _ _ _ _ _ _
          refine wpAny_pure ?_
          show wpAny _ _ (ret Value.none) _ _ _
          exact wpAny_pure ⟨rfl, h3, t3, rfl, f3, k3⟩
      · cases r2 with
        | error e2 => exact g2
        | ok f2 =>
          cases f2 with
          | ret v2 =>
            obtain ⟨rfl, h', tk, rfl, f3, k3⟩ := g2
            repeat (any_goals (first | assumption | wp_step))
            exact fin _ _ f3 k3
          | _ => exact g2.elim
    | _ => exact g1.elim
end
end L2
namespace L2
open PySem PySem.Spec PyProof.Rows
noncomputable def dedP : List PyData → List PyData
  | [] => []
  | d :: l => if d ∈ dedP l then dedP l else d :: dedP l
theorem dedP_mem : ∀ (l : List PyData) (d : PyData), d ∈ dedP l ↔ d ∈ l
  | [], d => Iff.rfl
  | x :: l, d => by
    rw [dedP]
    have ih := dedP_mem l
    split
    · rename_i h
      rw [ih, List.mem_cons]
      refine ⟨.inr, fun z => z.elim (fun e => ?_) id⟩
      rw [e]
      exact (ih x).mp h
    · rw [List.mem_cons, List.mem_cons, ih]
theorem dedP_nd : ∀ l : List PyData, (dedP l).Nodup
  | [] => List.nodup_nil
  | x :: l => by
    rw [dedP]
    split
    · exact dedP_nd l
    · rename_i h
      exact List.nodup_cons.mpr ⟨h, dedP_nd l⟩
def SetN (w : World) (a : Addr) (n : Nat) (h : Heap) : Prop := ∃ ys, ys.length = n ∧ SetX w a ys h
noncomputable def rSetT (K : PySem.W.Frag) (w : World) : List V → Hp → VK → Prop := fun xs H Q => ∃ (p : Addr) (bs : List Addr) (ds : List PyData), xs = [.ref p] ∧ SqL K H p (bs.map V.ref) ∧ Paired (fun b d => KeyIn K H d (.ref b)) bs ds ∧ ds.length ≤ 60 ∧ ∀ a, H a = none → Q (.ref a) (upd H a (.ext (SetN w a (dedP ds).length)))
section
variable {X : Cx}
theorem call_setX (hc : X.calm = true) (hu : X.A.units + 64 < cLine) : CallR X (.type "set") (rSetT X.K X.w) := by
  intro pins s σ H xs us Q I r h
  obtain ⟨p, bs, ds, rfl, hq, hp, h60, q⟩ := h
  obtain ⟨u, rfl, rx⟩ := vals1 r
  cases (show u = Value.ref p from rx)
  obtain ⟨its, rv, pl, hz⟩ := I.list hq
  have hl := rv.length
  have hbl := Paired.length hp
  rw [List.length_map] at hl
  have hit : ∀ (i : Nat) (v : Value), its.toArray[i]? = some v → v = .ref (bs.getD i 0) := fun i v hv => by
    have hv : its[i]? = some v := by simpa using hv
    have hi : i < bs.length := by
      have := (List.getElem?_eq_some_iff.mp hv).1
      omega
    obtain ⟨u, hu', r⟩ := rv.get (show (bs.map V.ref)[i]? = some (V.ref bs[i]) from by rw [List.getElem?_map, List.getElem?_eq_getElem hi]; rfl)
    rw [hv] at hu'
    cases hu'
    rw [List.getD_eq_getElem?_getD, List.getElem?_eq_getElem hi]
    exact r
  have hk : ∀ i, i < its.toArray.size → (pdKind X.prog X.w).is s.heap (ds.getD i .none) (bs.getD i 0) := fun i hi => by
    have hi : i < its.length := by simpa using hi
    have h1 : bs[i]? = some (bs[i]'(by omega)) := List.getElem?_eq_getElem _
    have h2 : ds[i]? = some (ds[i]'(by omega)) := List.getElem?_eq_getElem _
    have k := key_is I (paired_get hp i _ _ h1 h2)
    rw [List.getD_eq_getElem?_getD, List.getD_eq_getElem?_getD, h1, h2]
    exact k
  have sz : its.toArray.size = ds.length := by simp; omega
  refine call_setT (kk := fun i => ds.getD i .none) (ad := fun i => bs.getD i 0) (I.ok.hd hc) pl.isList hit hk (by rw [sz]; omega) (by omega) fun h' tk far kept => ?_
  obtain ⟨ys, S, nd, _, mem, _⟩ := far
  have len : ys.length = (dedP ds).length := by
    have e : (ys.map (·.1)).Perm (dedP ds) := (List.perm_ext_iff_of_nodup nd (dedP_nd ds)).mpr fun d => by
      rw [mem, dedP_mem, sz]
      constructor
      · rintro ⟨j, hj, rfl⟩
        show ds.getD j .none ∈ ds
        rw [List.getD_eq_getElem?_getD, List.getElem?_eq_getElem hj]
        exact List.getElem_mem hj
      · intro hd
        obtain ⟨j, hj, e⟩ := List.getElem_of_mem hd
        refine ⟨j, hj, ?_⟩
        show ds.getD j .none = d
        rw [List.getD_eq_getElem?_getD, List.getElem?_eq_getElem hj]
        exact e
    have := e.length_eq
    rw [List.length_map] at this
    exact this
  obtain ⟨o, es, ep, t, ho, _⟩ := id S
  refine ⟨.ref s.heap.objs.size, _, I.laid (h' := h') (o := .ext (SetN X.w s.heap.objs.size (dedP ds).length)) (t' := tk) kept (Nat.le_refl _) ⟨⟨ys, len, S⟩, ⟨o, ho⟩, fun g1 g2 hg hk2 => ?_⟩, rfl, q _ I.fresh⟩
  obtain ⟨ys', l', S'⟩ := hg
  exact ⟨ys', l', S'.moved hk2⟩
theorem call_lenT : CallR X (.builtin "len") (fun xs H Q => ∃ (p : Addr) (n : Nat), xs = [.ref p] ∧ n ≤ 60 ∧ H p = some (.ext (SetN X.w p n)) ∧ Q (.int n) H) := by
  intro pins s σ H xs us Q I r h
  obtain ⟨p, n, rfl, hn, hH, q⟩ := h
  obtain ⟨u, rfl, rx⟩ := vals1 r
  cases (show u = Value.ref p from rx)
  obtain ⟨⟨ys, len, o, es, ep, t, ho, hex, hd, T⟩, _, _⟩ := (show ObjOk X.prog X.w H s.heap p (.ext (SetN X.w p n)) from I.hok p _ hH)
  refine call_len_set ho hex hd T.fits ?_ ⟨.int n, H, I.tok _, ⟨_, by rw [T.size, len]⟩, q⟩
  rw [T.size, len]
  omega
end
end L2
namespace DL
open PySem PySem.Spec L2
section
variable {X : Cx} {K : PySem.W.Frag} {mg : Str → Option Value} {ww : World} {E : XK} {ow : List Bool} {a : Expr} {ms : Ev → R (List D)} {p p2 pos pos2 : Pos}
noncomputable def lenSetT : List D → R D
  | [.lst l] => if l.all okKey = true ∧ l.length ≤ 60 then .ok (.int (dedP (toPs l)).length) else .bad
  | _ => .bad
noncomputable def rLenSetT (K : PySem.W.Frag) (w : World) : List V → Hp → VK → Prop := fun xs H Q => ∃ (p : Addr) (bs : List Addr) (ds : List PyData), xs = [.ref p] ∧ SqL K H p (bs.map V.ref) ∧ Paired (fun b d => KeyIn K H d (.ref b)) bs ds ∧ ds.length ≤ 60 ∧ ∀ a, H a = none → ∃ (p' : Addr) (n : Nat), [V.ref a] = [.ref p'] ∧ n ≤ 60 ∧
  upd H a (.ext (SetN w a (dedP ds).length)) p' = some (.ext (SetN w p' n)) ∧ Q (.int n) (upd H a (.ext (SetN w a (dedP ds).length)))
theorem keys_pair {Hh H : Hp} (s : Same Hh H) : ∀ {l : List D} {xs : List V}, l.all okKey = true → IsDs K mg ww Hh l xs → ∃ bs : List Addr, xs = bs.map V.ref ∧ Paired (fun b d => KeyIn K H d (.ref b)) bs (toPs l)
  | [], xs, _, hi => by
    rw [hi.nil', toPs]
    exact ⟨[], rfl, .nil⟩
  | d :: l, xs, h, hi => by
    obtain ⟨x, r, rfl, h1, h2⟩ := hi.uncons
    rw [List.all_cons, Bool.and_eq_true] at h
    obtain ⟨bs, rfl, hp⟩ := keys_pair s h.2 h2
    have k := okKey_in h.1 (IsD.same s _ _ h1)
    obtain ⟨_, _, ⟨b, rfl⟩, _⟩ := id k
    rw [toPs]
    exact ⟨b :: bs, rfl, .cons k hp⟩
theorem dedP_len (l : List PyData) : (dedP l).length ≤ l.length := by
  induction l with
  | nil => exact Nat.le_refl _
  | cons x l ih =>
    rw [dedP, List.length_cons]
    split
    · omega
    · rw [List.length_cons]
      omega
theorem o_lenSetT : OpN K mg ww .d (rLenSetT K ww) lenSetT := by
  intro E os H xs ds Q dm hp o
  unfold lenSetT at o
  split at o
  · rename_i l
    split at o
    · rename_i hl
      obtain ⟨x, rfl, hx⟩ := pair1 hp
      obtain ⟨p, ys, rfl, h1, h2⟩ := hx.lst
      obtain ⟨bs, rfl, hpr⟩ := keys_pair hide_le hl.1 h2
      have z := dedP_len (toPs l)
      rw [toPs_len] at z
      exact ⟨p, bs, toPs l, rfl, SqL.of h1, hpr, by rw [toPs_len]; exact hl.2, fun a ha => ⟨a, _, rfl, by omega, upd_same, o _ _ (Wv.same_new ha) rInt⟩⟩
    · exact o.elim
  · exact o.elim
theorem e_lenSetT (hu : X.A.units + 64 < cLine) (hl : X.mg "len" = none) (hs : X.mg "set" = none) (ha : PA X [a] (tA K mg ww .b E ow ms)) (hc : X.calm = true := by rfl) (hK : X.K = K := by rfl) (hw : X.w = ww := by rfl) (hg : Gl X "len" := by rfl) (hg2 : Gl X "set" := by rfl)
    (he2 : starEach [a] X.env = (false, eval a X.env) :: starEach [] X.env := by rfl) (hpl2 : (backTo pos2 (starEach [] X.env)).any (·.1) = false := by rfl)
    (he : starEach [.Call (.Name "set" p2) [a] [] pos2] X.env = (false, eval (.Call (.Name "set" p2) [a] [] pos2) X.env) :: starEach [] X.env := by rfl) (hpl : (backTo pos (starEach [] X.env)).any (·.1) = false := by rfl) :
    PE X (.Call (.Name "len" p) [.Call (.Name "set" p2) [a] [] pos2] [] pos) (tE K mg ww .d E ow (mFn lenSetT ms)) := by
  subst hK hw
  exact (pe_callB call_lenT hg hl Wv.bt_len (pa_cons (pe_callTy (call_setX hc hu) hg2 hs Wv.bt_set ha (by decide) (by decide) he2 hpl2) pa_nil he) (by decide) (by decide) he hpl).mono fun σ H Q h => fn_go (K := X.K) (mg := mg) (r := rLenSetT X.K X.w) o_lenSetT h
end
end DL
namespace L2
open PySem PySem.Spec PyProof.Rows
section
variable {prog : Program} {w : World} {A : Around} {E : Value → Shared → Prop} {s : Shared} {it l : Addr} {items : Array Value}
end
end L2
namespace L2
open PySem PySem.Spec PyProof.Rows
section
variable {X : Cx} {e : Expr} {te : TE} {p p' pos pos' : Pos}
end
end L2
namespace DL
open PySem PySem.Spec L2
section
variable {X : Cx} {K : PySem.W.Frag} {mg : Str → Option Value} {ww : World} {E : XK} {ow : List Bool} {e : Expr} {m : Ev → R D} {p p' pos pos' : Pos}
end
end DL
namespace L2
open PySem PySem.Spec PyProof.Rows PySem.SetTable
theorem slot_si_next : Slot "set_iterator" "__next__" "set_iterator.__next__" :=
  .of (owner := "set_iterator") (n := "__next__") (by rw [typeLookup_type, builtinLookup_eq_fast]; kernel_rfl) (by decide +kernel) (by decide +kernel) (by decide +kernel) (by first | exact .inl (by decide +kernel) | exact .inr (by decide +kernel)) (by rw [isSubtype_type]; kernel_rfl)
theorem entry_si_next : entryFor table "set_iterator.__next__" = some Builtin.«set_iterator.__next__» := entryFor_of_tree (by kernel_rfl)
theorem args_si_next (a : Value) : argsOk "set_iterator.__next__" ⟨[a], []⟩ := by unfold argsOk; kernel_rfl
theorem slot_si_iter : Slot "set_iterator" "__iter__" "set_iterator.__iter__" :=
  .of (owner := "set_iterator") (n := "__iter__") (by rw [typeLookup_type, builtinLookup_eq_fast]; kernel_rfl) (by decide +kernel) (by decide +kernel) (by decide +kernel) (by first | exact .inl (by decide +kernel) | exact .inr (by decide +kernel)) (by rw [isSubtype_type]; kernel_rfl)
theorem entry_si_iter : entryFor table "set_iterator.__iter__" = some Builtin.«dict_keyiterator.__iter__» :=
  entryFor_alias (id' := "dict_keyiterator.__iter__") (by kernel_rfl) (by first | rfl | decide +kernel | (unfold String.splitOn; simp +decide [String.splitOnAux])) (by decide +kernel) (by kernel_rfl)
theorem args_si_iter (a : Value) : argsOk "set_iterator.__iter__" ⟨[a], []⟩ := by unfold argsOk; kernel_rfl
theorem entry_set_iter : entryFor table "set.__iter__" = some Builtin.«frozenset.__iter__» :=
  entryFor_alias (id' := "frozenset.__iter__") (by kernel_rfl) (by first | rfl | decide +kernel | (unfold String.splitOn; simp +decide [String.splitOnAux])) (by decide +kernel) (by kernel_rfl)
theorem erase_perm {α : Type} : ∀ (l : List α) (i : Nat) (h : i < l.length), (l[i] :: l.eraseIdx i).Perm l
  | x :: l, 0, _ => .refl _
  | x :: l, i + 1, h => (List.Perm.swap x _ _).trans ((erase_perm l i (Nat.lt_of_succ_lt_succ h)).cons x)
theorem pick_go {α : Type} (next : Nat → Nat) : ∀ (fuel k : Nat) (left : List α) (out : Array α), left.length = fuel → (pickOrder.go next fuel k left out).toList.Perm (out.toList ++ left)
  | 0, k, left, out, h => by
    rw [List.length_eq_zero_iff.mp h, List.append_nil]
    exact .refl _
  | fuel + 1, k, left, out, h => by
    have hlt : next k % left.length < left.length := Nat.mod_lt _ (by omega)
    unfold pickOrder.go
    rw [List.getElem?_eq_getElem hlt]
    dsimp only
    refine (pick_go next fuel (k + 1) _ _ (by rw [List.length_eraseIdx_of_lt hlt]; omega)).trans ?_
    rw [Array.toList_push, List.append_assoc]
    exact List.Perm.append_left _ (erase_perm _ _ hlt)
theorem pick_perm {α : Type} (next : Nat → Nat) (xs : Array α) : (pickOrder next xs).toList.Perm xs.toList := by
  refine (pick_go next xs.size 0 xs.toList #[] (by simp)).trans ?_
  simp
section
variable {prog : Program} {w : World} {A : Around} {E : Value → Shared → Prop} {s : Shared}
theorem wpAny_chooseX {src : Source} {n : Nat} {Q : Nat → Shared → Prop} (hn : n ≠ 0) (h : ∀ i d, i < n → Q i { s with drawn := d }) : wpAny (model prog w) A (choose src n) Q E s := fun _ _ _ => ⟨hn, h _ _ (Nat.mod_lt _ (Nat.pos_of_ne_zero hn))⟩
theorem wpAny_drawOrder {α : Type} : ∀ (n : Nat) (xs : List α) (s : Shared) {Q : List α → Shared → Prop}, xs.length = n → (∀ ys d, ys.Perm xs → Q ys { s with drawn := d }) → wpAny (model prog w) A (drawOrder n xs) Q E s
  | 0, xs, s, Q, hn, h => by
    have := List.length_eq_zero_iff.mp hn
    subst this
    show wpAny _ _ (pure []) _ _ s
    exact wpAny_pure (h [] s.drawn (.refl _))
  | n + 1, [], s, Q, hn, h => by simp at hn
  | n + 1, x :: xs, s, Q, hn, h => by
    show wpAny _ _ (choose .order (x :: xs).length >>= _) _ _ s
    refine wpAny_bind (wpAny_chooseX (by simp) fun i d hi => ?_)
    rw [List.getElem?_eq_getElem hi]
    dsimp only
    refine wpAny_bind (wpAny_drawOrder n ((x :: xs).eraseIdx i) _ (by rw [List.length_eraseIdx_of_lt hi]; omega) fun ys d2 pm => ?_)
    exact wpAny_pure (h _ d2 ((List.Perm.cons _ pm).trans (erase_perm _ _ hi)))
end
end L2
namespace L2
open PySem PySem.Spec PyProof.Rows PySem.SetTable
inductive SiM (w : World) (S tp : Addr) (es : Array (Int × Value)) (ep : Nat) (t : SetTable) (ord : List Value) (i : Nat) (h : Heap) : Value → Prop
  | text (slot : Nat) (hb : w.params.followText "set-order" = true) (he : ord = (pickOrder (w.params.setOrder S ep) es).toList.map (·.2)) : SiM w S tp es ep t ord i h (rawInt slot)
  | led (slot : Nat) (hb : w.params.followText "set-order" = false) (hl : t.led = true) (hd : (!t.plain && decide (es.size > 1)) = false) (hs : below t.place slot = i) (he : ord = es.toList.map (·.2)) : SiM w S tp es ep t ord i h (rawInt slot)
  | drawn (o : Obj) (m : Nat) (places : List Nat) (hb : w.params.followText "set-order" = false) (ho : h.get? tp = some o) (hd : o.data = .seq (places.map fun (i : Nat) => rawInt i).toArray m) (hp : ∀ p ∈ places, p < es.size) (he : ord = places.map fun p => (es.getD p (0, .none)).2) : SiM w S tp es ep t ord i h (.ref tp)
structure SiS (w : World) (I S tp : Addr) (es : Array (Int × Value)) (ep : Nat) (t : SetTable) (ord : List Value) (i : Nat) (h : Heap) : Prop where
  it : ∃ o first, h.get? I = some o ∧ o.cls = .type "set_iterator" ∧ o.data = .fields #[first, rawInt i, .ref S, rawInt es.size, rawInt ep] ∧ SiM w S tp es ep t ord i h first
  set : ∃ o, h.get? S = some o ∧ o.data = .set es ep t
theorem SiM.at {w : World} {S tp : Addr} {es : Array (Int × Value)} {ep : Nat} {t : SetTable} {ord : List Value} {i : Nat} {h h' : Heap} {v : Value} (M : SiM w S tp es ep t ord i h v) (e : ∀ o, h.get? tp = some o → h'.get? tp = some o) : SiM w S tp es ep t ord i h' v := by
  cases M with
  | text slot a b => exact .text slot a b
  | led slot a b c d e => exact .led slot a b c d e
  | drawn o m ps a b c d f => exact .drawn o m ps a (e _ b) c d f
section
variable {prog : Program} {w : World} {A : Around} {E : Value → Shared → Prop} {s : Shared} {I S tp : Addr} {es : Array (Int × Value)} {ep : Nat} {t : SetTable} {ord : List Value}
theorem byText_is {Q : Bool → Shared → Prop} (h : Q (w.params.followText "set-order") s) : wpAny (model prog w) A setsByText Q E s := by
  unfold setsByText
  exact wpAny_bind (wpAny_askSetting (wpAny_pure h))
theorem SiS.ty {i : Nat} (x : SiS w I S tp es ep t ord i s.heap) : s.TypeIs (.ref I) "set_iterator" := let ⟨o, _, ho, hc, _⟩ := x.it; ⟨o, ho, hc⟩
theorem si_next {o : Obj} {first nx : Value} {i : Nat} (ho : s.heap.get? I = some o) (hc : o.cls = .type "set_iterator") (hd : o.data = .fields #[first, rawInt i, .ref S, rawInt es.size, rawInt ep]) (hoS : ∃ o, s.heap.get? S = some o ∧ o.data = .set es ep t) (hne : S ≠ I) (hnt : tp ≠ I) (M : SiM w S tp es ep t ord (i + 1) s.heap nx) (h' : Heap)
    (sb : Heap.SameBut I s.heap h') (hI : ∃ o', h'.get? I = some o' ∧ o'.cls = .type "set_iterator" ∧ o'.data = .fields #[nx, rawInt ((i : Int) + 1), .ref S, rawInt es.size, rawInt ep]) : SiS w I S tp es ep t ord (i + 1) h' := by
  obtain ⟨oS, h1, h2⟩ := hoS
  obtain ⟨o', g1, g2, g3⟩ := hI
  exact ⟨⟨o', nx, g1, g2, g3, M.at fun o e => (sb.2 tp hnt).trans e⟩, oS, (sb.2 S hne).trans h1, h2⟩
theorem si_item {i : Nat} {x : Value} {Q : Option Value → Shared → Prop} (hf : t.fits es.size = true) (hris : Rising t.place) (hne : S ≠ I) (hnt : tp ≠ I) (st : SiS w I S tp es ep t ord i s.heap) (hi : i < es.size) (hx : ord[i]? = some x)
    (hQ : ∀ h', SiS w I S tp es ep t ord (i + 1) h' → Heap.SameBut I s.heap h' → Q (some x) { s with heap := h' }) : wpAny (model prog w) A (pyNext (.ref I)) Q E s := by
  have hty := st.ty
  obtain ⟨o, first, ho, hc, hd, M⟩ := st.it
  obtain ⟨oS, hoS, hdS⟩ := id st.set
  unfold pyNext
  refine wpAny_bind (wpAny_attempt (wpAny_callSpecial?_slot (name := Str.ofString "__next__") hty slot_si_next (wpAny_call_entry slot_si_next hty entry_si_next ?_ (args_si_next _))))
  unfold Builtin.«set_iterator.__next__»
  refine wpAny_bind (wpAny_of_eq (a := (Value.ref I, [])) rfl ?_)
  dsimp only
  refine wpAny_bind (wpAny_fieldsOf ho hd ?_)
  dsimp only [rawInt]
  unfold setEntries
  refine wpAny_bind (wpAny_bind (wpAny_setState_of hoS hdS hf (wpAny_pure ?_)))
  dsimp only
  rw [if_neg (by simp)]
  have hps : t.place.size = es.size := by
    simp only [SetTable.fits, Bool.and_eq_true, beq_iff_eq, decide_eq_true_eq] at hf
    exact hf.1
  have up : ∀ (h0 : Heap) (o0 : Obj) (k : Nat) (v : Value) (vs : Array Value), h0.get? I = some o0 → o0.cls = .type "set_iterator" → o0.data = .fields vs → ∃ o', (h0.update I (Obj.mapFields (·.setIfInBounds k v))).get? I = some o' ∧ o'.cls = .type "set_iterator" ∧ o'.data = .fields (vs.setIfInBounds k v) := fun h0 o0 k v vs g1 g2 g3 =>
    ⟨_, Heap.get?_update_self _ g1 (Obj.isFreed_of_fields (Obj.data_mapFields g3 _)), (Obj.cls_mapFields ..).trans g2, Obj.data_mapFields g3 _⟩
  have two : ∀ (nx : Nat), SiM w S tp es ep t ord (i + 1) s.heap (rawInt nx) → SiS w I S tp es ep t ord (i + 1) ((s.heap.update I (Obj.mapFields (·.setIfInBounds 0 (rawInt nx)))).update I (Obj.mapFields (·.setIfInBounds 1 (rawInt ((i : Int) + 1))))) := fun nx M' => by
    obtain ⟨o1, a1, a2, a3⟩ := up s.heap o 0 (rawInt nx) _ ho hc hd
    obtain ⟨o2, b1, b2, b3⟩ := up _ o1 1 (rawInt ((i : Int) + 1)) _ a1 a2 a3
    exact si_next ho hc hd st.set hne hnt M' _ ((Heap.SameBut.update ..).trans (Heap.SameBut.update ..)) ⟨o2, b1, b2, b3⟩
  have sb2 : ∀ {v1 v2 : Value}, Heap.SameBut I s.heap ((s.heap.update I (Obj.mapFields (·.setIfInBounds 0 v1))).update I (Obj.mapFields (·.setIfInBounds 1 v2))) := fun {v1 v2} => (Heap.SameBut.update ..).trans (Heap.SameBut.update ..)
  cases M with
  | text slot hb he =>
    dsimp only [rawInt]
    unfold setNext
    refine wpAny_bind (wpAny_bind (wpAny_setState_of hoS hdS hf ?_))
    dsimp only
    refine wpAny_bind (byText_is ?_)
    rw [hb, if_pos rfl]
    rw [if_neg (by simp)]
    unfold setWalk
    refine wpAny_bind (wpAny_bind (wpAny_setState_of hoS hdS hf ?_))
    dsimp only
    refine wpAny_bind (byText_is ?_)
    rw [hb, if_pos rfl]
    refine wpAny_bind (wpAny_askSetting (wpAny_pure (wpAny_pure ?_)))
    have hy : ∃ y, (pickOrder (w.params.setOrder S ep) es)[i]? = some y ∧ y.2 = x := by
      rw [he, List.getElem?_map, Array.getElem?_toList] at hx
      exact Option.map_eq_some_iff.mp hx
    obtain ⟨y, hy, rfl⟩ := hy
    have hy' : (pickOrder ((⟨(model prog w).prog, (model prog w).w.params⟩ : Setting).params.setOrder S ep) es)[Int.toNat (i : Int)]? = some y := hy
    rw [hy']
    dsimp only [Option.map]
    refine wpAny_bind (wpAny_setField ho hd (by simp) ?_)
    obtain ⟨o1, a1, a2, a3⟩ := up s.heap o 0 (rawInt (Int.toNat (slot : Int) : Nat)) _ ho hc hd
    refine wpAny_bind (wpAny_setField a1 a3 (by simp) ?_)
    exact wpAny_pure ⟨_, rfl, wpAny_pure (hQ _ (two _ (.text _ hb he)) sb2)⟩
  | led slot hb hl hd2 hs he =>
    dsimp only [rawInt]
    unfold setNext
    refine wpAny_bind (wpAny_bind (wpAny_setState_of hoS hdS hf ?_))
    dsimp only
    refine wpAny_bind (byText_is ?_)
    rw [hb, if_neg Bool.false_ne_true]
    have hj : ∃ j, t.place[i]? = some j := ⟨_, Array.getElem?_eq_getElem (by omega)⟩
    obtain ⟨j, hj⟩ := hj
    have hy : ∃ y, es[i]? = some y ∧ y.2 = x := by
      rw [he, List.getElem?_map, Array.getElem?_toList] at hx
      exact Option.map_eq_some_iff.mp hx
    obtain ⟨y, hy, rfl⟩ := hy
    refine wpAny_ifF hd2 (wpAny_bind (wpAny_ifF (by rw [hl]; rfl) (wpAny_pure (wpAny_pure ?_))))
    have hs' : below t.place (Int.toNat (slot : Int)) = i := hs
    rw [hs', hy, hj]
    dsimp only
    refine wpAny_bind (wpAny_setField ho hd (by simp) ?_)
    obtain ⟨o1, a1, a2, a3⟩ := up s.heap o 0 (rawInt ((j + 1 : Nat) : Int)) _ ho hc hd
    refine wpAny_bind (wpAny_setField a1 a3 (by simp) ?_)
    refine wpAny_pure ⟨_, rfl, wpAny_pure (hQ _ (two (j + 1) (.led _ hb hl hd2 ?_ he)) sb2)⟩
    obtain ⟨b1, b2, b3⟩ := below_ok (j + 1) hris
    have c1 : i < below t.place (j + 1) := by
      rcases Nat.lt_or_ge i (below t.place (j + 1)) with z | z
      · exact z
      · have := b3 i j z hj
        omega
    rcases Nat.lt_or_ge (i + 1) (below t.place (j + 1)) with z | z
    · have hk : t.place[i + 1]? = some (t.place[i + 1]'(by omega)) := Array.getElem?_eq_getElem _
      have q1 := b2 (i + 1) _ z hk
      have q2 := hris i (i + 1) _ _ (by omega) hj hk
      omega
    · omega
  | drawn ot m places hb hot hdt hp he =>
    dsimp only
    refine wpAny_bind (wpAny_seqItems hot hdt ?_)
    dsimp only
    have hy : ∃ p, places[i]? = some p ∧ (es.getD p (0, .none)).2 = x := by
      rw [he, List.getElem?_map] at hx
      exact Option.map_eq_some_iff.mp hx
    obtain ⟨p, hpl, rfl⟩ := hy
    have hpi : ((places.map fun (i : Nat) => rawInt i).toArray)[Int.toNat (i : Int)]? = some (Value.int (p : Int) 0) := by
      rw [List.getElem?_toArray, List.getElem?_map, show places[Int.toNat (i : Int)]? = some p from hpl]
      rfl
    rw [hpi]
    dsimp only
    have plt := hp p (List.mem_of_getElem? hpl)
    have hes : es[Int.toNat (p : Int)]? = some (es.getD p (0, .none)) := by
      show es[p]? = _
      rw [Array.getElem?_eq_getElem plt, Array.getD, dif_pos plt]
      rfl
    unfold setNextDrawn
    refine wpAny_bind (wpAny_bind (wpAny_setState_of hoS hdS hf ?_))
    dsimp only
    rw [if_neg (by simp), hes]
    refine wpAny_pure ?_
    dsimp only
    refine wpAny_bind (wpAny_setField ho hd (by simp) ?_)
    obtain ⟨o1, a1, a2, a3⟩ := up s.heap o 1 (rawInt ((i : Int) + 1)) _ ho hc hd
    exact wpAny_pure ⟨_, rfl, wpAny_pure (hQ _ (si_next ho hc hd st.set hne hnt (.drawn ot m places hb hot hdt hp he) _ (Heap.SameBut.update ..) ⟨o1, a1, a2, a3⟩) (Heap.SameBut.update ..))⟩
theorem si_stop {o : Obj} {k : Nat} {vs : Array Value} {Q : Option Value → Shared → Prop} {s0 : Shared} (hh : A.handled = none) (hQ : ∀ h' tk, Heap.ExtBut I s0.heap h' → Q none { s0 with heap := h', toks := tk }) {h1 : Heap} (sb : Heap.SameBut I s0.heap h1) :
    wpAny (model prog w) A.in1 (newExc (.type "StopIteration") [] >>= fun e => raiseNew (α := Fin) e) (fun fin s' => ∃ v, fin = Fin.done (Flow.ret v) ∧ wpAny (model prog w) A (pure (some v)) Q E s') (fun e s' => wpAny (model prog w) A (isInstance e (.type "StopIteration") >>= fun b => if b = true then pure none else throw e) Q E s') { s0 with heap := h1 } := by
  refine wpAny_bind ?_
  simp only [newExc, newTuple]
  refine wpAny_bind (wpAny_newObj_type ?_ (by size_fits))
  refine wpAny_bind (m := firstArgMember _ _) (wpAny_of_eq (a := Value.none)
    (by first | rfl | (simp only [firstArgMember]; rfl)) ?_)
  refine wpAny_newObj_type ?_ (by size_fits)
  simp only [raiseNew]
  refine wpAny_bind (wpAny_handled ?_)
  first | rw [show A.in1.handled = none from hh] | rw [hh]
  refine wpAny_bind (wpAny_pure (wpAny_throw ?_))
  refine wpAny_bind (wpAny_isInstance (T := "StopIteration") (b := true)
    ⟨_, Heap.get?_push_size _ rfl, rfl⟩ isSubtype_stop ?_)
  exact wpAny_pure (hQ _ _ ((sb.extBut.push _).push _))
theorem si_end {Q : Option Value → Shared → Prop} (hh : A.handled = none) (hf : t.fits es.size = true) (hlen : ord.length = es.size) (st : SiS w I S tp es ep t ord es.size s.heap)
    (hQ : ∀ h' tk, Heap.ExtBut I s.heap h' → Q none { s with heap := h', toks := tk }) : wpAny (model prog w) A (pyNext (.ref I)) Q E s := by
  have hty := st.ty
  obtain ⟨o, first, ho, hc, hd, M⟩ := st.it
  obtain ⟨oS, hoS, hdS⟩ := id st.set
  unfold pyNext
  refine wpAny_bind (wpAny_attempt (wpAny_callSpecial?_slot (name := Str.ofString "__next__") hty slot_si_next (wpAny_call_entry slot_si_next hty entry_si_next ?_ (args_si_next _))))
  unfold Builtin.«set_iterator.__next__»
  refine wpAny_bind (wpAny_of_eq (a := (Value.ref I, [])) rfl ?_)
  dsimp only
  refine wpAny_bind (wpAny_fieldsOf ho hd ?_)
  dsimp only [rawInt]
  unfold setEntries
  refine wpAny_bind (wpAny_bind (wpAny_setState_of hoS hdS hf (wpAny_pure ?_)))
  dsimp only
  rw [if_neg (by simp)]
  have hps : t.place.size = es.size := by
    simp only [SetTable.fits, Bool.and_eq_true, beq_iff_eq, decide_eq_true_eq] at hf
    exact hf.1
  cases M with
  | text slot hb he =>
    dsimp only [rawInt]
    unfold setNext
    refine wpAny_bind (wpAny_bind (wpAny_setState_of hoS hdS hf ?_))
    dsimp only
    refine wpAny_bind (byText_is ?_)
    rw [hb, if_pos rfl]
    rw [if_neg (by simp)]
    unfold setWalk
    refine wpAny_bind (wpAny_bind (wpAny_setState_of hoS hdS hf ?_))
    dsimp only
    refine wpAny_bind (byText_is ?_)
    rw [hb, if_pos rfl]
    refine wpAny_bind (wpAny_askSetting (wpAny_pure (wpAny_pure ?_)))
    have hy' : (pickOrder ((⟨(model prog w).prog, (model prog w).w.params⟩ : Setting).params.setOrder S ep) es)[Int.toNat (es.size : Int)]? = none := by
      refine Array.getElem?_eq_none ?_
      have := hlen
      rw [he, List.length_map, Array.length_toList] at this
      show (pickOrder (w.params.setOrder S ep) es).size ≤ es.size
      omega
    rw [hy']
    dsimp only [Option.map]
    exact wpAny_bind (wpAny_setField ho hd (by simp) (si_stop (o := o) (k := 0) (vs := #[]) hh hQ (Heap.SameBut.update ..)))
  | led slot hb hl hd2 hs he =>
    dsimp only [rawInt]
    unfold setNext
    refine wpAny_bind (wpAny_bind (wpAny_setState_of hoS hdS hf ?_))
    dsimp only
    refine wpAny_bind (byText_is ?_)
    rw [hb, if_neg Bool.false_ne_true]
    refine wpAny_ifF hd2 (wpAny_bind (wpAny_ifF (by rw [hl]; rfl) (wpAny_pure (wpAny_pure ?_))))
    have hs' : below t.place (Int.toNat (slot : Int)) = es.size := hs
    have hn : es[es.size]? = none := Array.getElem?_eq_none (Nat.le_refl _)
    rw [hs', hn]
    dsimp only
    exact wpAny_bind (wpAny_setField ho hd (by simp) (si_stop (o := o) (k := 0) (vs := #[]) hh hQ (Heap.SameBut.update ..)))
  | drawn ot m places hb hot hdt hp he =>
    dsimp only
    refine wpAny_bind (wpAny_seqItems hot hdt ?_)
    dsimp only
    have hpi : ((places.map fun (i : Nat) => rawInt i).toArray)[Int.toNat (es.size : Int)]? = none := by
      refine Array.getElem?_eq_none ?_
      have := hlen
      rw [he, List.length_map] at this
      show _ ≤ es.size
      rw [List.size_toArray, List.length_map]
      omega
    rw [hpi]
    dsimp only
    refine wpAny_bind (wpAny_setField ho hd (by simp) ?_)
    have ho2 := Heap.get?_update_self (Obj.mapFields (·.setIfInBounds 0 (rawInt 0))) ho (Obj.isFreed_of_fields (Obj.data_mapFields hd _))
    exact wpAny_bind (wpAny_setField ho2 (Obj.data_mapFields hd _) (by simp) (si_stop (o := o) (k := 0) (vs := #[]) hh hQ ((Heap.SameBut.update ..).trans (Heap.SameBut.update ..))))
theorem si_iter {i : Nat} {Q : Value → Shared → Prop} (st : SiS w I S tp es ep t ord i s.heap) (h : Q (.ref I) s) : wpAny (model prog w) A (pyIter (.ref I)) Q E s := by
  refine wpAny_pyIter_slot st.ty slot_si_iter (wpAny_call_entry slot_si_iter st.ty entry_si_iter ?_ (args_si_iter _))
  show wpAny _ _ (ret (.ref I)) _ _ s
  exact wpAny_pure ⟨_, rfl, "set_iterator", _, st.ty, slot_si_next.lookup, h⟩
end
theorem walks_si {prog : Program} {w : World} {A : Around} (hh : A.handled = none) {I S tp : Addr} {es : Array (Int × Value)} {ep : Nat} {t : SetTable} {ord : List Value} (hf : t.fits es.size = true) (hris : Rising t.place) (hlen : ord.length = es.size) (hne : S ≠ I) (hnt : tp ≠ I) :
    Walks prog w A I [I, S, tp] [I] es.size (fun i v => ord[i]? = some v) (fun i h => SiS w I S tp es ep t ord i h) where
  sub := fun b hb => by simp at hb; simp [hb]
  frame := fun i h h' x hk => by
    obtain ⟨o, f, e1, e2, e3, M⟩ := x.it
    obtain ⟨o', e4, e5⟩ := x.set
    exact ⟨⟨o, f, hk I (by simp) o e1, e2, e3, M.at fun o e => hk tp (by simp) o e⟩, o', hk S (by simp) o' e4, e5⟩
  item := fun i s Q E hi x hQ => by
    have hx : ord[i]? = some (ord[i]'(by omega)) := List.getElem?_eq_getElem _
    exact si_item hf hris hne hnt x hi hx fun h' st' hs' => hQ _ h' s.toks hx st' fun b o hb eo => hs'.extBut b o (fun h => hb (by simp [h])) eo
  done := fun s Q E x hQ => si_end hh hf hlen x fun h' tk he' => hQ h' tk fun b o hb eo => he' b o (fun h => hb (by simp [h])) eo
  self := fun _ _ _ _ x hQ => si_iter x hQ
end L2
namespace L2
open PySem PySem.Spec PyProof.Rows PySem.SetTable
structure SetG (w : World) (ys : List (Int × Value)) (es : Array (Int × Value)) (t : SetTable) : Prop where
  els : es.toList = ys
  tab : TabH t (ys.map (·.1))
  few : ys.length * 5 < t.mask * 3
  led : t.led = !(w.params.followText "set-order")
def SetGX (w : World) (a : Addr) (ys : List (Int × Value)) (h : Heap) : Prop := ∃ o es ep t, h.get? a = some o ∧ o.ExactSet ∧ o.data = .set es ep t ∧ SetG w ys es t
theorem SetT.gen {w : World} {ys : List (PyData × Addr)} {es : Array (Int × Value)} {t : SetTable} (T : SetT w ys es t) : SetG w (ys.map fun y => (hashD w y.1, Value.ref y.2)) es t :=
  ⟨T.els, by rw [List.map_map]; exact T.tab, by rw [List.length_map]; exact T.few, T.led⟩
theorem SetX.gen {w : World} {a : Addr} {ys : List (PyData × Addr)} {h : Heap} (X : SetX w a ys h) : SetGX w a (ys.map fun y => (hashD w y.1, Value.ref y.2)) h := by
  obtain ⟨o, es, ep, t, h1, h2, h3, T⟩ := X
  exact ⟨o, es, ep, t, h1, h2, h3, T.gen⟩
theorem SetGX.moved {w : World} {S : Addr} {ys : List (Int × Value)} {h h' : Heap} (X : SetGX w S ys h) (e : ∀ o, h.get? S = some o → h'.get? S = some o) : SetGX w S ys h' := by
  obtain ⟨o, es, ep, t, ho, r⟩ := X
  exact ⟨o, es, ep, t, e o ho, r⟩
section
variable {w : World} {ys : List (Int × Value)} {es : Array (Int × Value)} {t : SetTable}
theorem SetG.size (T : SetG w ys es t) : es.size = ys.length := by rw [← Array.length_toList, T.els]
theorem SetG.fits (T : SetG w ys es t) : t.fits es.size = true := by
  have h1 := T.tab.len
  have h2 := T.tab.tab.dm
  have h3 := T.few
  have h4 := T.size
  rw [List.length_map] at h1
  unfold SetTable.fits SetTable.fill
  rw [h2, h1, h4]
  simp
  omega
theorem SetG.lay (T : SetG w ys es t) (h : Int) (x : Value) : ∃ (t1 : SetTable) (p : Nat), layNew t es h x = (insertAt es p (h, x), t1, false, false) ∧ TabH t1 ((insL ys p (h, x)).map (·.1)) ∧ t1.mask = t.mask ∧ t1.led = t.led ∧ t1.plain = t.plain := by
  have room : t.place.size ≤ t.mask := by
    have h1 := T.tab.len
    have h2 := T.few
    rw [List.length_map] at h1
    omega
  obtain ⟨met, e, M⟩ := probe_met T.tab.tab room (hashAt := fun _ => h + 1) (h := h) (start_pr (mask := 0) t h)
  cases M with
  | cand s1 i a1 b1 c1 => exact absurd c1 (by omega)
  | empty s1 a1 b1 =>
    have fs : t.freeSlot h = some (pth0 t.mask h s1, false) := by
      unfold SetTable.freeSlot
      rw [e]
      rfl
    obtain ⟨H, hp, hmask, hmv⟩ := put_ok T.tab (h := h) (s := s1) b1 fun s' hs' => by
      obtain ⟨i, hi, _⟩ := a1 s' hs'
      exact ⟨i, hi⟩
    rw [← insL_map (fun y : Int × Value => y.1) ys (t.put (pth0 t.mask h s1)).2 (h, x)] at H
    rw [List.length_map] at hp
    have hl := H.len
    rw [List.length_map, insL_len] at hl
    have esz : (insertAt es (t.put (pth0 t.mask h s1)).2 (h, x)).size = ys.length + 1 := by
      rw [← Array.length_toList, toList_insertAt, T.els]
      exact insL_len ys _ _
    have few := T.few
    have ft : (t.put (pth0 t.mask h s1)).1.fits (insertAt es (t.put (pth0 t.mask h s1)).2 (h, x)).size = true := by
      unfold SetTable.fits SetTable.fill
      rw [hl, esz, H.tab.dm, hmask]
      simp
      rcases T.tab.tab.msk with q | q | q <;> omega
    refine ⟨(t.put (pth0 t.mask h s1)).1, (t.put (pth0 t.mask h s1)).2, ?_, H, hmask, rfl, rfl⟩
    unfold layNew
    rw [fs]
    show (insertAt es (t.put (pth0 t.mask h s1)).2 (h, x), (t.put (pth0 t.mask h s1)).1.orStandIn (insertAt es (t.put (pth0 t.mask h s1)).2 (h, x)).size, false, !((t.put (pth0 t.mask h s1)).1.fits (insertAt es (t.put (pth0 t.mask h s1)).2 (h, x)).size)) = _
    unfold SetTable.orStandIn
    rw [ft]
    rfl
theorem relay_is {zs : List (Int × Value)} {es1 : Array (Int × Value)} {t1 : SetTable} (els : es1.toList = zs) (H : TabH t1 (zs.map (·.1))) {m : Nat} (hm : t1.mask = m) (hf : (zs.length - 1) * 5 < m * 3) (h0 : 1 ≤ zs.length) (h64 : zs.length ≤ 64) (hled : t1.led = !(w.params.followText "set-order")) (tf : t1.tooFull = true) :
    ∃ es3 t3 zs3, relayAll t1 es1 (grown es1.size) = (es3, t3, false) ∧ zs3.Perm zs ∧ SetG w zs3 es3 t3 := by
  have hl := H.len
  rw [List.length_map] at hl
  have hz : es1.size = zs.length := by rw [← Array.length_toList, els]
  have tf' : zs.length * 5 ≥ m * 3 := by
    unfold SetTable.tooFull SetTable.fill at tf
    rw [hl, H.tab.dm, hm] at tf
    exact of_decide_eq_true tf
  obtain ⟨g1, g2, g3, g4⟩ := grows (m := m) (n := zs.length) (hm ▸ H.tab.msk) hf h0 tf' h64
  obtain ⟨t3, order, l1, l2, l3, l4, l5, l6⟩ := laid_ok (mask := sizeAbove (grown zs.length) - 1) (hs := zs.map (·.1)) g1 (by rw [List.length_map]; exact g2) t1.finger (t1.movedTo (sizeAbove (grown zs.length) - 1)) t1.led t1.plain
  have hh : es1.map (·.1) = (zs.map (·.1)).toArray := by
    apply Array.toList_inj.mp
    rw [Array.toList_map, els]
  have rl : t1.relaid (es1.map (·.1)) (grown es1.size) = some (t3, order) := by
    unfold SetTable.relaid
    rw [hh, hz]
    exact l1
  rw [List.length_map] at l5
  have olt : ∀ x ∈ order.toList, x < zs.length := fun x hx => List.mem_range.mp (l5.mem_iff.mp hx)
  have fm : (order.filterMap (es1[·]?)).toList = order.toList.map fun x => zs.getD x (0, .none) := by
    rw [Array.toList_filterMap]
    generalize order.toList = ol at olt
    induction ol with
    | nil => rfl
    | cons x ol ih =>
      have hx := olt x List.mem_cons_self
      have gx : es1[x]? = some (zs.getD x (0, .none)) := by
        rw [← Array.getElem?_toList, els, List.getD_eq_getElem?_getD, List.getElem?_eq_getElem hx]
        rfl
      rw [List.filterMap_cons_some gx, ih fun z hz => olt z (List.mem_cons_of_mem _ hz)]
      rfl
  have pm : (order.toList.map fun x => zs.getD x (0, .none)).Perm zs := by
    have q := l5.map fun x => zs.getD x (0, .none)
    have e : (List.range zs.length).map (fun x => zs.getD x (0, .none)) = zs := by
      refine List.ext_getElem (by rw [List.length_map, List.length_range]) fun i h1 h2 => ?_
      rw [List.getElem_map, List.getElem_range, List.getD_eq_getElem?_getD, List.getElem?_eq_getElem h2]
      rfl
    rw [e] at q
    exact q
  have G : SetG w (order.toList.map fun x => zs.getD x (0, .none)) (order.filterMap (es1[·]?)) t3 := by
    refine ⟨fm, ?_, by rw [pm.length_eq, l2]; exact g3, by rw [l4]; exact hled⟩
    have hm2 : (order.toList.map fun x => zs.getD x (0, .none)).map (·.1) = order.toList.map fun a => (zs.map (·.1)).getD a 0 := by
      rw [List.map_map]
      refine List.map_congr_left fun x hx => ?_
      have hx := olt x hx
      show (zs.getD x (0, .none)).1 = _
      rw [List.getD_eq_getElem?_getD, List.getD_eq_getElem?_getD, List.getElem?_map, List.getElem?_eq_getElem hx]
      rfl
    rw [hm2]
    exact l6
  refine ⟨_, t3, _, ?_, pm, G⟩
  unfold relayAll
  rw [rl]
  show (if (coversAll order es1.size && t3.fits (order.filterMap (es1[·]?)).size) = true then _ else _) = _
  have c1 : coversAll order es1.size = true := by
    unfold coversAll
    rw [hz]
    exact List.isPerm_iff.mpr l5
  rw [c1, G.fits]
  rfl
end
section
variable {prog : Program} {w : World} {A : Around} {E : Value → Shared → Prop} {s : Shared}
theorem add_I {a : Addr} {o : Obj} {es : Array (Int × Value)} {ep : Nat} {t : SetTable} {ys : List (Int × Value)} {k : Int} {x : Value} (ho : s.heap.get? a = some o) (hex : o.ExactSet) (hd : o.data = .set es ep t) (T : SetG w ys es t) (hx : (intKind prog w).is k x = true) (hel : ElemsOf (intKind prog w) ys) (h64 : ys.length < 64)
    {Q : Bool → Shared → Prop} (hin : (∃ y ∈ ys, (intKind prog w).is k y.2 = true) → Q false s) (hout : (∀ y ∈ ys, (intKind prog w).is k y.2 = false) → ∀ h' ys', Heap.SameBut a s.heap h' → SetGX w a ys' h' → ys'.Perm ((hashInt k, x) :: ys) → Q true { s with heap := h' }) : wpAny (model prog w) A (setAddHashed a x (hashInt k)) Q E s := by
  have hf := T.fits
  have hsc : x.scannable = true := by
    obtain ⟨tk, rfl⟩ := Value.isInt_shape hx
    rfl
  have helE : ElemsOf (intKind prog w) es.toList := by rw [T.els]; exact hel
  have hb : es.size < scanBound := by rw [T.size]; exact Nat.lt_of_lt_of_le h64 (by decide)
  unfold setAddHashed setAddHashedIn
  refine wpAny_holding (wpAny_bind (wpAny_setState_of ho hd hf ?_))
  dsimp only
  rw [byScan_of hsc hb helE]
  simp only [↓reduceIte]
  unfold setAddByScan
  refine wpAny_bind ?_
  refine wpAny_bind (wpAny_rule ?_)
  refine wpAny_bind (wpAny_setScan_of (knd := intKind prog w) hx ho hd hf helE ?_)
  cases hr : List.findIdx? (fun e => (intKind prog w).is k e.2) es.toList with
  | some j =>
    dsimp only
    obtain ⟨hj, hpj, _⟩ := List.findIdx?_eq_some_iff_getElem.mp hr
    refine wpAny_pure (wpAny_pure (hin ⟨es.toList[j], ?_, hpj⟩))
    have := List.getElem_mem hj
    rw [← T.els]
    exact this
  | none =>
    dsimp only
    have hno : ∀ y ∈ ys, (intKind prog w).is k y.2 = false := fun y hy => List.findIdx?_eq_none_iff.mp hr y (by rw [T.els]; exact hy)
    obtain ⟨t1, p, e1, H1, m1, l1, p1⟩ := T.lay (hashInt k) x
    have e1' : layNew t es ((intKind prog w).hash k) x = (insertAt es p (hashInt k, x), t1, false, false) := e1
    have els : (insertAt es p (hashInt k, x)).toList = insL ys p (hashInt k, x) := by
      rw [toList_insertAt, T.els]
      rfl
    have esz : (insertAt es p (hashInt k, x)).size = ys.length + 1 := by rw [← Array.length_toList, els, insL_len]
    have few := T.few
    first | rw [e1'] | rw [e1]
    dsimp only
    refine wpAny_bind (wpAny_pure ?_)
    have hl1 := H1.len
    rw [List.length_map, insL_len] at hl1
    have fl : t1.fill = ys.length + 1 := by
      unfold SetTable.fill
      rw [hl1, H1.tab.dm]
      rfl
    have tail : ∀ gw : Bool → Sem Unit, gw false = pure () → wpAny (model prog w) A (do
        storeSet a (insertAt es p (hashInt k, x)) t1
        if (!false && t1.tooFull) = true then do
            gw (relayAll t1 (insertAt es p (hashInt k, x)) (grown (insertAt es p (hashInt k, x)).size)).2.2
            storeSet a (relayAll t1 (insertAt es p (hashInt k, x)) (grown (insertAt es p (hashInt k, x)).size)).1 (relayAll t1 (insertAt es p (hashInt k, x)) (grown (insertAt es p (hashInt k, x)).size)).2.1
            pure (some true)
          else pure (some true)) (fun r s' => wpAny (model prog w) A (match r with | some added => pure added | none => setAddHashedIn a x (hashInt k) 99999) Q E s') E s := fun gw hgw => by
      refine wpAny_bind (wpAny_storeSet_of ho hd ?_ (by rw [esz, sizeLine_eq]; omega))
      have hg : (s.heap.update a (Obj.putSet (insertAt es p (hashInt k, x)) t1)).get? a = some { o with data := .set (insertAt es p (hashInt k, x)) (ep + 1) t1 } := by
        have := Heap.get?_update_self (Obj.putSet (insertAt es p (hashInt k, x)) t1) ho (by rw [putSet_of _ t1 hd]; rfl)
        rw [putSet_of _ t1 hd] at this
        exact this
      have hsb1 := Heap.SameBut.update s.heap a (Obj.putSet (insertAt es p (hashInt k, x)) t1)
      cases tf : t1.tooFull with
      | true =>
        simp only [Bool.not_false, Bool.and_self, if_true]
        obtain ⟨es3, t3, zs3, r1, r2, r3⟩ := relay_is (w := w) (m := t.mask) els H1 m1 (by rw [insL_len]; omega) (by rw [insL_len]; omega) (by rw [insL_len]; omega) (by rw [l1]; exact T.led) tf
        rw [r1, hgw]
        refine wpAny_bind (wpAny_pure ?_)
        refine wpAny_bind (wpAny_storeSet_of hg rfl ?_ (by rw [r3.size, r2.length_eq, insL_len, sizeLine_eq]; omega))
        refine wpAny_pure (wpAny_pure ?_)
        refine hout hno _ _ (hsb1.trans (Heap.SameBut.update _ a _)) ⟨_, _, ep + 1 + 1, t3, Heap.get?_update_self (Obj.putSet es3 t3) hg (by rw [putSet_of _ t3 rfl]; rfl), ?_, ?_, r3⟩ (r2.trans (insL_perm _ _ _))
        · rw [putSet_of _ t3 rfl]
          exact hex
        · rw [putSet_of _ t3 rfl]
      | false =>
        simp only [Bool.not_false, Bool.and_false, Bool.false_eq_true, if_false]
        refine wpAny_pure (wpAny_pure (hout hno _ (insL ys p (hashInt k, x)) hsb1 ⟨_, _, _, t1, hg, hex, rfl, ⟨els, H1, ?_, by rw [l1]; exact T.led⟩⟩ (insL_perm _ _ _)))
        rw [insL_len, m1]
        unfold SetTable.tooFull at tf
        rw [fl, m1] at tf
        have := of_decide_eq_false tf
        omega
    split
    · refine wpAny_bind ?_
      have hv : hashByValue 8 x = pure true := by
        obtain ⟨tk, rfl⟩ := Value.isInt_shape hx
        rfl
      rw [hv]
      refine wpAny_pure ?_
      simp only [if_true]
      exact tail _ rfl
    · refine wpAny_bind (wpAny_pure ?_)
      simp only [if_true]
      exact tail _ rfl
end
end L2
namespace L2
open PySem PySem.Spec PyProof.Rows PySem.SetTable
section
variable {prog : Program} {w : World}
set_option maxHeartbeats 3200000 in
theorem call_setW {A : Around} {E : Value → Shared → Prop} {s : Shared} {l : Addr} {ol : Obj} {T : String} {Q : Value → Shared → Prop} {IF : Addr → Heap → Heap → Prop} {Fi : Heap → Prop} (lo : s.heap.get? l = some ol) (lc : ol.cls = .type T) (no1 : isSubtype (.type T) (.type "set") = pure false) (no2 : isSubtype (.type T) (.type "frozenset") = pure false) (no3 : (Value.type T == Value.type "dict") = false)
    (hit : ∀ (h1 : Heap) (Q1 : Value → Shared → Prop) (E1 : Value → Shared → Prop), Kept s.heap h1 → (∀ I h2, IF I h1 h2 → Q1 (.ref I) { s with heap := h2 }) → wpAny (model prog w) A.in1.in1 (pyIter (.ref l)) Q1 E1 { s with heap := h1 })
    (hfill : ∀ (led : Bool) (I : Addr) (h2 : Heap) (R : Result → Shared → Prop), led = (!(w.params.followText "set-order")) → IF I (s.heap.push (newS led)) h2 → (∀ h' tk, Fi h' → Kept s.heap h' → R (.ok (.ret .none)) { s with heap := h', toks := tk }) → codeAny (model prog w) A.in1.in1 (.builtin "set.update.loop" ⟨[.ref s.heap.objs.size, .ref I], []⟩) R { s with heap := h2 })
    (fin : ∀ (h' : Heap) (tk : Nat), Fi h' → Kept s.heap h' → Q (.ref s.heap.objs.size) { s with heap := h', toks := tk }) : wpAny (model prog w) A (call (.type "set") [.ref l]) Q E s := by
  obtain ⟨mc, mt, isMro⟩ := F.called_set.mro
  have isMade := F.called_set.made
  have isSub := F.called_set.sub
  refine wpAny_call (codeAny_of_tree ?_)
  show wpAny _ _ (callAny (.type "set") _) _ _ _
  refine wpAny_pure ⟨Code.quiet_builtin _ (by decide +kernel), codeAny_builtin F.entry_type_call ?_⟩
  rw [Around.under_plain (weight_type_call_type "set" [.ref l] []) rfl]
  have isT := F.called_set.notType
  have isC := F.called_set.canCreate
  have isA := F.typeCall_set_1 (.ref l)
  repeat (any_goals (first | assumption | wp_step))
  refine codeAny_mono (code_set_newL (.ref l) (E := E) (Q₁ := fun v s1 => ∃ led : Bool, led = (!(w.params.followText "set-order")) ∧ v = .ref s.heap.objs.size ∧ s1 = { s with heap := s.heap.push (newS led) }) ⟨_, rfl, rfl, rfl⟩) fun r1 s1 g1 => ?_
  cases r1 with
  | error e1 => exact g1
  | ok f1 =>
    cases f1 with
    | ret v1 =>
      obtain ⟨led, hled, rfl, rfl⟩ := g1
      have at0 : (s.heap.push (newS led)).get? s.heap.objs.size = some (newS led) := Heap.get?_push_size _ rfl
      have ty0 : Shared.TypeIs { s with heap := s.heap.push (newS led) } (.ref s.heap.objs.size) "set" := ⟨_, at0, rfl⟩
      have lo0 := F.called_set.init.lookup
      have bi0 := F.called_set.init.bind (.ref s.heap.objs.size)
      repeat (any_goals (first | assumption | wp_step))
      refine codeAny_mono (codeAny_call_builtin (R := wants (fun v2 s2 => v2 = .none ∧ ∃ h' tk, s2 = { s with heap := h', toks := tk } ∧ Fi h' ∧ Kept s.heap h') E) F.called_set.init.plain F.entry_set_init (check_set_init_1 ty0 ?_)) fun r2 s2 g2 => ?_
      · have kp : Kept s.heap (s.heap.push (newS led)) := fun b o e => Heap.get?_push_of_some _ e
        have hit1 := fun Q1 E1 => hit (s.heap.push (newS led)) Q1 E1 kp
        have fill1 := fun I h2 R => hfill led I h2 R hled
        obtain ⟨oc, od, ox, os⟩ := ol
        dsimp only at lc
        subst lc
        have lo1 : (s.heap.push (newS led)).get? l = some { cls := .type T, dict := od, data := ox, slots := os } := Heap.get?_push_of_some _ lo
        clear hit hfill
        unfold Builtin.«set.__init__» noKeywords Builtin.Frozenset.updateFrom
        generalize keepI : pyIter = It
        wp_walk
        subst keepI
        refine hit1 _ _ fun I h2 hI => ?_
        refine wpAny_bind (wpAny_runValue ?_)
        refine fill1 I h2 _ hI fun h' tk f3 k3 => ?_
        show wpAny _ _ _ _ _ _
        refine wpAny_pure ?_
        show wpAny _ _ (ret Value.none) _ _ _
        exact wpAny_pure ⟨rfl, h', tk, rfl, f3, k3⟩
      · cases r2 with
        | error e2 => exact g2
        | ok f2 =>
          cases f2 with
          | ret v2 =>
            obtain ⟨rfl, h', tk, rfl, f3, k3⟩ := g2
            repeat (any_goals (first | assumption | wp_step))
            exact fin _ _ f3 k3
          | _ => exact g2.elim
    | _ => exact g1.elim
end
end L2
namespace L2
open PySem PySem.Spec PyProof.Rows PySem.SetTable
theorem wpAny_ifT {α : Type} {M : Model} {A : Around} {E : Value → Shared → Prop} {s : Shared} {Q : α → Shared → Prop} {c : Bool} {x y : Sem α} (h : c = true) (k : wpAny M A x Q E s) : wpAny M A (if c = true then x else y) Q E s := by
  rw [h, if_pos rfl]
  exact k
section
variable {prog : Program} {w : World} {A : Around} {E : Value → Shared → Prop} {s : Shared}
theorem SetGX.ty {S : Addr} {ys : List (Int × Value)} (X : SetGX w S ys s.heap) : s.TypeIs (.ref S) "set" := by
  obtain ⟨o, _, _, _, ho, hex, _⟩ := X
  exact ⟨o, ho, hex.1⟩
structure SiN (w : World) (S : Addr) (ys : List (Int × Value)) (h h' : Heap) (I tp : Addr) (es : Array (Int × Value)) (ep : Nat) (t : SetTable) (ord : List Value) : Prop where
  kept : Kept h h'
  st : SiS w I S tp es ep t ord 0 h'
  perm : ord.Perm (ys.map fun y => y.2)
  len : ord.length = es.size
  T : SetG w ys es t
  newI : h.objs.size ≤ I
  newT : h.objs.size ≤ tp ∨ tp = S
  neS : S ≠ I
  neT : tp ≠ I
theorem set_pyIter {S : Addr} {ys : List (Int × Value)} {Q : Value → Shared → Prop} (X : SetGX w S ys s.heap) (h64 : ys.length ≤ 64)
    (h : ∀ (I tp : Addr) es ep t ord h' d, SiN w S ys s.heap h' I tp es ep t ord → Q (.ref I) { s with heap := h', drawn := d }) : wpAny (model prog w) A (pyIter (.ref S)) Q E s := by
  have hty := X.ty
  obtain ⟨o, es, ep, t, ho, hex, hd, T⟩ := X
  have hf := T.fits
  have hS : S < s.heap.objs.size := Heap.lt_size ho
  have hlen := T.size
  have emp : (es.toList.map (·.2)) = ys.map fun y => y.2 := by rw [T.els]
  refine wpAny_pyIter_slot hty F.slot_set_iter (wpAny_call_entry F.slot_set_iter hty entry_set_iter ?_ (F.args_set_iter_1 _))
  unfold Builtin.«frozenset.__iter__»
  refine wpAny_bind (wpAny_of_eq (a := S) (by first | rfl | kernel_rfl) ?_)
  unfold Builtin.Frozenset.sizeOf setEntries setDrawn setEpoch
  refine wpAny_bind (wpAny_bind (wpAny_bind (wpAny_setState_of ho hd hf (wpAny_pure (wpAny_pure ?_)))))
  dsimp only
  refine wpAny_bind (wpAny_bind (wpAny_setState_of ho hd hf ?_))
  dsimp only
  refine wpAny_bind (byText_is (wpAny_pure ?_))
  have plain : ∀ ord : List Value, SiM w S S es ep t ord 0 s.heap (rawInt 0) → ord.Perm (ys.map fun y => y.2) → wpAny (model prog w) A.in1 (do
      let e ← (do let x ← setState S; pure x.2.1)
      let x ← newFields "set_iterator" [rawInt 0, rawInt 0, .ref S, rawInt es.size, rawInt (e : Nat)]
      ret x) (fun fin s' => ∃ v, fin = Fin.done (Flow.ret v) ∧ ∃ T' r, s'.TypeIs v T' ∧ typeLookup (.type T') "__next__" = pure (some r) ∧ Q v s') E s := fun ord M pm => by
    refine wpAny_bind (wpAny_bind (wpAny_setState_of ho hd hf (wpAny_pure ?_)))
    refine wpAny_bind (wpAny_newObj_type ?_)
    refine wpAny_pure ⟨_, rfl, "set_iterator", _, ⟨_, Heap.get?_push_size _ rfl, rfl⟩, slot_si_next.lookup, ?_⟩
    refine h s.heap.objs.size S es ep t ord _ s.drawn ⟨fun b o e => Heap.get?_push_of_some _ e, ⟨⟨_, rawInt 0, Heap.get?_push_size _ rfl, rfl, rfl, M.at fun o e => Heap.get?_push_of_some _ e⟩, o, Heap.get?_push_of_some _ ho, hd⟩, pm, ?_, T, Nat.le_refl _, .inr rfl, Nat.ne_of_lt hS, Nat.ne_of_lt hS⟩
    rw [pm.length_eq, List.length_map, hlen]
  cases hb : w.params.followText "set-order" with
  | true =>
    refine wpAny_ifF rfl (wpAny_bind (wpAny_pure ?_))
    refine plain _ (.text 0 hb rfl) ?_
    rw [← emp]
    exact (pick_perm _ es).map _
  | false =>
    have hled : t.led = true := by rw [T.led, hb]; rfl
    cases hdr : (!t.plain && decide (es.size > 1)) with
    | false =>
      refine wpAny_ifF (by rw [Bool.not_false, Bool.true_and]; exact hdr) (wpAny_bind (wpAny_pure ?_))
      refine plain _ (.led 0 hb hled hdr ?_ rfl) (by rw [emp])
      obtain ⟨b1, b2, b3⟩ := below_ok 0 T.tab.tab.ris
      rcases Nat.eq_zero_or_pos (below t.place 0) with z | z
      · exact z
      · have := b2 0 _ z (Array.getElem?_eq_getElem (by omega))
        omega
    | true =>
      refine wpAny_ifT (by rw [Bool.not_false, Bool.true_and]; exact hdr) ?_
      refine wpAny_bind (wpAny_drawOrder es.size (List.range es.size) s List.length_range fun places d pm => ?_)
      have hpl : places.length = es.size := by rw [pm.length_eq, List.length_range]
      refine wpAny_bind (wpAny_newTuple ?_ (by rw [List.length_map, hpl, hlen, sizeLine_eq]; omega))
      have ho1 : (s.heap.push { cls := .type "tuple", data := .seq (places.map fun (i : Nat) => rawInt i).toArray }).get? S = some o := Heap.get?_push_of_some _ ho
      refine wpAny_bind (wpAny_bind (wpAny_setState_of ho1 hd hf (wpAny_pure ?_)))
      refine wpAny_bind (wpAny_newObj_type ?_)
      refine wpAny_pure ⟨_, rfl, "set_iterator", _, ⟨_, Heap.get?_push_size _ rfl, rfl⟩, slot_si_next.lookup, ?_⟩
      have sz := Heap.size_push s.heap { cls := .type "tuple", data := .seq (places.map fun (i : Nat) => rawInt i).toArray }
      have olt : ∀ x ∈ places, x < es.size := fun x hx => List.mem_range.mp (pm.mem_iff.mp hx)
      have opm : (places.map fun p => (es.getD p (0, .none)).2).Perm (ys.map fun y => y.2) := by
        rw [← emp]
        refine (pm.map _).trans ?_
        have e : (List.range es.size).map (fun p => (es.getD p (0, .none)).2) = es.toList.map (·.2) := by
          refine List.ext_getElem (by simp) fun i h1 h2 => ?_
          have hi : i < es.size := by simpa using h2
          rw [List.getElem_map, List.getElem_range, List.getElem_map, Array.getElem_toList, Array.getD, dif_pos hi]
          rfl
        rw [e]
      refine h _ s.heap.objs.size es ep t _ _ d ⟨fun b o e => Heap.get?_push_of_some _ (Heap.get?_push_of_some _ e), ⟨⟨_, _, Heap.get?_push_size _ rfl, rfl, rfl, .drawn _ 0 places hb (Heap.get?_push_of_some _ (Heap.get?_push_size _ rfl)) rfl olt rfl⟩, o, Heap.get?_push_of_some _ ho1, hd⟩, opm, ?_, T, ?_, .inl (Nat.le_refl _), ?_, ?_⟩
      · rw [opm.length_eq, List.length_map, hlen]
      · rw [sz]; exact Nat.le_succ _
      · rw [sz]; exact Nat.ne_of_lt (Nat.lt_succ_of_lt hS)
      · rw [sz]; exact Nat.ne_of_lt (Nat.lt_succ_self _)
theorem set_lenHint {S : Addr} {ys : List (Int × Value)} {Q : Bool → Shared → Prop} (X : SetGX w S ys s.heap) (hQ : Q false s) : wpAny (model prog w) A (Builtin.List.listLengthHint (.ref S)) Q E s := by
  have hty := X.ty
  unfold Builtin.List.listLengthHint
  refine wpAny_bind (wpAny_specialOf hty F.slot_set_len.lookup ?_)
  dsimp only
  generalize hid : ("set.__len__" : String) = id0
  rw [show splitId id0 = some ("set", "__len__") from by subst hid; decide +kernel]
  dsimp only
  refine wpAny_bind (wpAny_isInstance (b := true) hty sub_set_self ?_)
  refine wpAny_ifF rfl ?_
  subst hid
  refine wpAny_ifT ?_ ?_
  · decide +kernel
  refine wpAny_bind (wpAny_typeOf hty ?_)
  dsimp only
  exact wpAny_pure hQ
theorem set_collect {S : Addr} {ys : List (Int × Value)} {Q : List Value → Shared → Prop} (hh : A.in1.handled = none) (X : SetGX w S ys s.heap) (h64 : ys.length ≤ 64)
    (hQ : ∀ vs h' d tk, vs.Perm (ys.map fun y => y.2) → Kept s.heap h' → s.heap.objs.size ≤ h'.objs.size → Q vs { s with heap := h', drawn := d, toks := tk }) : wpAny (model prog w) A (collect (.ref S)) Q E s := by
  have ltS : S < s.heap.objs.size := by obtain ⟨o, _, _, _, e, _⟩ := X; exact Heap.lt_size e
  have neS : s.heap.objs.size ≠ S := Nat.ne_of_gt ltS
  unfold collect
  refine wpAny_bind
    (wpAny_runValue (codeAny_builtin F.entry_proto_collect ?_))
  rw [Around.under_plainId F.plain_proto_collect _]
  show wpAny _ A.in1 (newList [] >>= fun q => again (.builtin "list.__iadd__" ⟨[q, .ref S], []⟩)) _ _ s
  refine wpAny_bind (wpAny_newObj_type ?_)
  refine wpAny_pure
    ⟨plainId_quiet F.plain_list_iadd _, codeAny_builtin F.entry_list_iadd ?_⟩
  rw [Around.under_plainId F.plain_list_iadd _]
  have S1 : (s.heap.push emptyO).get? s.heap.objs.size = some emptyO := Heap.get?_push_size _ rfl
  have same1 : Builtin.List.listSameRef (.ref s.heap.objs.size) (.ref S) = false := by
    simp [Builtin.List.listSameRef, neS]
  show wpAny _ A.in1 (Builtin.List.listExtendWith (.ref s.heap.objs.size) (.ref S) (.ref s.heap.objs.size)) _ _ ({ s with heap := s.heap.push emptyO } : Shared)
  unfold Builtin.List.listExtendWith
  have X1 : SetGX w S ys (s.heap.push emptyO) := X.moved fun o e => Heap.get?_push_of_some _ e
  refine wpAny_bind (wpAny_typeOf (show Shared.TypeIs { s with heap := s.heap.push emptyO } (.ref S) "set" from SetGX.ty (s := { s with heap := s.heap.push emptyO }) X1) ?_)
  refine wpAny_ifF (by rw [same1]; decide) ?_
  refine wpAny_bind (set_pyIter (s := { s with heap := s.heap.push emptyO }) X1 h64 fun I tp es ep t ord h1 d N => ?_)
  have X2 : SetGX w S ys h1 := X1.moved fun o e => N.kept _ o e
  refine wpAny_bind (wpAny_holding (set_lenHint (s := { s with heap := h1, drawn := d }) X2 ?_))
  refine wpAny_ifT (by decide) ?_
  refine wpAny_bind (wpAny_rule (wpAny_bind ?_))
  show wpAny _ A.in1 (updateSeq s.heap.objs.size (fun q => q.push .none) >>= fun _ => updateSeq s.heap.objs.size fun q => q.pop) _ _ _
  have S1' : h1.get? s.heap.objs.size = some emptyO := N.kept _ _ S1
  refine wpAny_bind (wpAny_updateSeq S1' rfl ?_)
  have S2 := Heap.get?_update_self (Obj.mapSeq fun q => q.push Value.none) S1' rfl
  refine wpAny_updateSeq S2 rfl ?_
  have S3 := Heap.get?_update_self (Obj.mapSeq fun q => q.pop) S2 rfl
  have oth : ∀ b o, b ≠ s.heap.objs.size → h1.get? b = some o →
      ((h1.update s.heap.objs.size (Obj.mapSeq fun q => q.push Value.none)).update s.heap.objs.size (Obj.mapSeq fun q => q.pop)).get? b = some o :=
    fun b o hb e => (Heap.get?_update_other _ _ (Ne.symm hb)).trans
      ((Heap.get?_update_other _ _ (Ne.symm hb)).trans e)
  have sz1 : (s.heap.push emptyO).objs.size = s.heap.objs.size + 1 := Heap.size_push _ _
  have gtI : s.heap.objs.size < I := by have := N.newI; rw [sz1] at this; exact this
  have neI : s.heap.objs.size ≠ I := Nat.ne_of_lt gtI
  have neT : s.heap.objs.size ≠ tp := by
    rcases N.newT with z | z
    · rw [sz1] at z
      exact Nat.ne_of_lt z
    · rw [z]
      exact neS
  have nofp : s.heap.objs.size ∉ [I, S, tp] := by
    simp only [List.mem_cons, List.not_mem_nil, or_false, not_or]
    exact ⟨neI, neS, neT⟩
  have Wk := (walks_si (prog := prog) (A := A.in1) hh (w := w) N.T.fits N.T.tab.tab.ris N.len (ep := ep) N.neS N.neT).toS
  refine wpAny_pure ⟨plainId_quiet F.plain_extend_loop _, codeAny_extend_loopS Wk (by rw [N.T.size, sizeLine_eq]; omega) _ nofp _ es.size 0 _ _ _ rfl (Nat.zero_le _)
    (Wk.frame 0 ({ s with heap := h1, drawn := d } : Shared) _ s.toks N.st (Nat.le_refl _) fun b hb o e => oth b o (fun h => nofp (h ▸ hb)) e) S3 (ItemsOf.nil _) fun s' acc' c' hm hS' hacc => ?_⟩
  show wpAny _ A (load s.heap.objs.size >>= _) _ _ s'
  refine wpAny_bind (wpAny_load hS' ?_)
  have eq : acc'.toList = ord := by
    refine List.ext_getElem? fun i => ?_
    rcases Nat.lt_or_ge i es.size with z | z
    · have hi : acc'[i]? = some (acc'[i]'(by rw [hacc.1]; exact z)) := Array.getElem?_eq_getElem _
      rw [Array.getElem?_toList, hi]
      exact (hacc.2 i _ hi).symm
    · rw [Array.getElem?_toList, Array.getElem?_eq_none (by rw [hacc.1]; exact z), List.getElem?_eq_none (by rw [N.len]; exact z)]
  obtain ⟨h3, g3, d3, t3, o3⟩ := s'
  obtain rfl : g3 = s.gens := hm.gens
  obtain rfl : d3 = d := hm.drawn
  obtain rfl : o3 = s.os := hm.os
  refine wpAny_pure ?_
  rw [eq]
  refine hQ ord h3 _ t3 N.perm (fun b o e => ?_) (Nat.le_of_lt (Heap.lt_size hS'))
  have hlt : b < s.heap.objs.size := Heap.lt_size e
  refine hm.heap b o ?_ (oth b o (Nat.ne_of_lt hlt) (N.kept b o (Heap.get?_push_of_some _ e)))
  simp only [List.mem_cons, List.not_mem_nil, or_false, not_or]
  exact ⟨Nat.ne_of_lt hlt, Nat.ne_of_lt (Nat.lt_trans hlt gtI)⟩
def nV : Value → Int
  | .int k _ => k
  | _ => 0
def nI (y : Int × Value) : Int := nV y.2
theorem ints_areV : ∀ vs : List Value, (∀ v ∈ vs, ∃ k tk, v = Value.int k tk) → IntsAre vs (vs.map nV)
  | [], _ => .nil
  | v :: vs, h => by
    obtain ⟨k, tk, rfl⟩ := h v List.mem_cons_self
    exact .cons k tk (ints_areV vs fun v hv => h v (List.mem_cons_of_mem _ hv))
theorem sorted_setI {S : Addr} {ys : List (Int × Value)} {Q : Value → Shared → Prop} (hh : A.handled = none) (X : SetGX w S ys s.heap) (h64 : ys.length < 64) (hI : ∀ y ∈ ys, ∃ k tk, y = (hashInt k, Value.int k tk))
    (h : ∀ (out : List Value) (ns' : List Int), IntsAre out ns' → ns'.Perm (ys.map nI) → ns'.Pairwise (· ≤ ·) → ∀ (a : Addr) h' d tk e, s.heap.objs.size ≤ a → Kept s.heap h' → h'.get? a = some (seqObj "list" out.toArray e) → Q (.ref a) { s with heap := h', drawn := d, toks := tk }) : wpAny (model prog w) A (call (.builtin "sorted") [.ref S]) Q E s := by
  refine Calls.call_function_entry kind_sorted plain_sorted entry_sorted (args_sorted1 _) ?_
  unfold Builtin.«sorted»
  refine wpAny_bind (m := checkCount "sorted" 1 1 _) (wpAny_pure ?_)
  refine wpAny_bind (set_collect hh X (Nat.le_of_lt h64) fun vs h1 d tk pm k1 sizes => ?_)
  have hvl : vs.length = ys.length := by rw [pm.length_eq, List.length_map]
  have hv : IntsAre vs (vs.map nV) := ints_areV vs fun v hv => by
    obtain ⟨y, hy, rfl⟩ := List.mem_map.mp (pm.mem_iff.mp hv)
    obtain ⟨k, tk, rfl⟩ := hI y hy
    exact ⟨k, tk, rfl⟩
  have pm2 : (vs.map nV).Perm (ys.map nI) := by
    have := pm.map nV
    rw [List.map_map] at this
    exact this
  refine wpAny_bind (wpAny_newList ?_)
  have hoL : (h1.push (seqObj "list" vs.toArray 0)).get? h1.objs.size = some (seqObj "list" vs.toArray 0) := Heap.get?_push_size _ rfl
  have keep : ∀ b o, s.heap.get? b = some o → b ≠ h1.objs.size ∧ (h1.push (seqObj "list" vs.toArray 0)).get? b = some o := fun b o q =>
    ⟨Nat.ne_of_lt (Heap.lt_size (k1 b o q)), Heap.get?_push_of_some _ (k1 b o q)⟩
  show wpAny _ _ _ _ _ { s with heap := h1.push (seqObj "list" vs.toArray 0), drawn := d, toks := tk }
  refine wpAny_bind (wpAny_holding (wpAny_call_entry slot_list_sort ⟨_, hoL, rfl⟩ entry_list_sort (list_sort_tree hoL hv (by omega) fun out ns' a1 a2 a3 => ⟨_, rfl, ?_⟩) (args_list_sort _)))
  obtain ⟨e, he⟩ := sortedHeap_at (out := out) hoL
  refine wpAny_pure ⟨_, rfl, h out.toList ns' a1 (a2.trans pm2) a3 _ _ d tk e sizes (fun b o z => ?_) (by rw [Array.toArray_toList]; exact he)⟩
  rw [sortedHeap_old (keep b o z).1 (Heap.lt_size (keep b o z).2)]
  exact (keep b o z).2
end
end L2
namespace L2
open PySem PySem.Spec PyProof.Rows PySem.W
section
variable {A : Type} {key : Nat → Int}
end
section
variable {X : Cx}
theorem Inv.drawn' {pins : List (Addr × Obj)} {σ : St} {H : Hp} {s : Shared} (I : Inv X pins σ H s) (d : Drawn) : Inv X pins σ H { s with drawn := d } :=
  ⟨I.ok, I.os, I.bare, I.base, I.loc, I.cell, I.free, I.freeC, I.pin, I.hok, I.len⟩
end
end L2
namespace DL
open PySem PySem.Spec L2
section
variable {X : Cx} {K : PySem.W.Frag} {mg : Str → Option Value} {ww : World} {E : XK} {ow : List Bool} {a : Expr} {ms : Ev → R (List D)} {p p2 pos pos2 : Pos}
end
end DL
namespace L2
open PySem PySem.Spec PyProof.Rows PySem.SetTable
def FarI (w : World) (S : Addr) (kk : Nat → Int) (i : Nat) (h : Heap) : Prop :=
  ∃ ys : List (Int × Value), SetGX w S ys h ∧ (∀ y ∈ ys, ∃ k tk, y = (hashInt k, Value.int k tk)) ∧ (ys.map nI).Nodup ∧ (∀ k, k ∈ ys.map nI ↔ ∃ j, j < i ∧ kk j = k) ∧ ys.length ≤ i
section
variable {prog : Program} {w : World}
theorem elems_I {ys : List (Int × Value)} (h : ∀ y ∈ ys, ∃ k tk, y = (hashInt k, Value.int k tk)) : ElemsOf (intKind prog w) ys := fun y hy => by
  obtain ⟨k, tk, rfl⟩ := h y hy
  exact ⟨⟨k, show Value.isInt k (.int k tk) = true by simp [Value.isInt], rfl⟩, rfl⟩
theorem is_nI {y : Int × Value} {k : Int} (h : ∃ k tk, y = (hashInt k, Value.int k tk)) : (intKind prog w).is k y.2 = decide (nI y = k) := by
  obtain ⟨k', tk, rfl⟩ := h
  show Value.isInt k (.int k' tk) = decide (k' = k)
  simp only [Value.isInt]
  by_cases e : k' = k
  · rw [decide_eq_true e]; simp [e]
  · rw [decide_eq_false e]; simp; exact fun z => e z
theorem fill_I {A : Around} {R : Result → Shared → Prop} {I S : Addr} {fp wr : List Addr} {G : Array GenState → Array GenState → Prop} {n : Nat} {P : Nat → Value → Prop} {St : Nat → Shared → Prop} (W : WalksS prog w A.in1 I fp wr G n P St) (hSf : S ∉ fp)
    {h0 : Heap} {kk : Nat → Int} (hP : ∀ i v, P i v → ∃ tk, v = .int (kk i) tk) (hn : n ≤ 64) (h0S : h0.get? S = none) (h0w : ∀ b ∈ wr, h0.get? b = none) :
    ∀ (m i : Nat) (s : Shared), n - i = m → i ≤ n → St i s → Kept h0 s.heap → FarI w S kk i s.heap →
      (∀ s', Moved (S :: wr) G s s' → Kept h0 s'.heap → FarI w S kk n s'.heap → R (.ok (.ret .none)) s') → codeAny (model prog w) A (.builtin "set.update.loop" ⟨[.ref S, .ref I], []⟩) R s := by
  have hSw : S ∉ wr := fun z => hSf (W.sub _ z)
  have more : ∀ b ∈ wr, b ∈ S :: wr := fun b z => List.mem_cons_of_mem _ z
  have keepM : ∀ {s s' : Shared}, Moved wr G s s' → Kept h0 s.heap → Kept h0 s'.heap := fun {s s'} mv q b o e => mv.heap b o (fun z => by rw [h0w b z] at e; cases e) (q b o e)
  intro m
  induction m with
  | zero =>
    intro i s hm hi st q far hR
    obtain rfl : i = n := by omega
    refine codeAny_builtin F.entry_set_update_loop ?_
    rw [Around.under_plainId F.plain_set_update_loop _]
    show wpAny _ A.in1 (pyNext (.ref I) >>= _) _ _ s
    refine wpAny_bind (W.done s _ _ st fun s' mv => ?_)
    show wpAny _ A.in1 (ret Value.none) _ _ s'
    refine wpAny_pure (hR s' (mv.mono more) (keepM mv q) ?_)
    obtain ⟨ys, X, r⟩ := far
    exact ⟨ys, X.moved fun o e => mv.heap S o hSw e, r⟩
  | succ m ih =>
    intro i s hm hi st q far hR
    have hlt : i < n := by omega
    refine codeAny_builtin F.entry_set_update_loop ?_
    rw [Around.under_plainId F.plain_set_update_loop _]
    show wpAny _ A.in1 (pyNext (.ref I) >>= _) _ _ s
    refine wpAny_bind (W.item i s _ _ hlt st fun v s' pv st' mv => ?_)
    obtain ⟨tk, rfl⟩ := hP i v pv
    have q' := keepM mv q
    obtain ⟨ys, X, hI, nd, hm2, hl⟩ := far
    obtain ⟨o, es, ep, t, ho, hex, hd, T⟩ := X.moved fun o e => mv.heap S o hSw e
    show wpAny _ A.in1 (holding [Value.int (kk i) tk] (setAdd S (.int (kk i) tk)) >>= _) _ _ s'
    refine wpAny_bind (wpAny_holding ?_)
    unfold setAdd
    refine wpAny_holding ?_
    have hx : (intKind prog w).is (kk i) (.int (kk i) tk) = true := by show Value.isInt (kk i) (.int (kk i) tk) = true; simp [Value.isInt]
    refine wpAny_bind ((intKind prog w).pyHash hx ?_)
    refine add_I (s := { s' with toks := s'.toks + 1 }) ho hex hd T hx (elems_I hI) (by omega) (fun z => ?_) (fun z h' ys' sb X' pm => ?_)
    · obtain ⟨y, hy, hyk⟩ := z
      rw [is_nI (hI y hy)] at hyk
      have hmem : kk i ∈ ys.map nI := List.mem_map.mpr ⟨y, hy, of_decide_eq_true hyk⟩
      refine wpAny_pure ⟨plainId_quiet F.plain_set_update_loop _, ih (i + 1) _ (by omega) hlt (W.frame _ s' _ _ st' (Nat.le_add_right _ _) fun b _ o e => e) q' ⟨ys, ⟨o, es, ep, t, ho, hex, hd, T⟩, hI, nd, fun d => ?_, by omega⟩ fun s2 mv2 k2 f2 => ?_⟩
      · rw [hm2]
        constructor
        · rintro ⟨j, hj, e⟩
          exact ⟨j, by omega, e⟩
        · rintro ⟨j, hj, e⟩
          rcases Nat.lt_or_ge j i with y | y
          · exact ⟨j, y, e⟩
          · obtain rfl : j = i := by omega
            obtain ⟨j', g1, g2⟩ := (hm2 _).mp hmem
            exact ⟨j', g1, g2.trans e⟩
      · exact hR s2 (Moved.trans W.gtrans ((mv.mono more).then_heap (Nat.le_add_right _ _) fun b o _ e => e) mv2) k2 f2
    · have kept2 : Kept h0 h' := fun b o e => by
        rw [sb.2 b fun y => by rw [y, h0S] at e; cases e]
        exact q' b o e
      have hno : kk i ∉ ys.map nI := fun hm => by
        obtain ⟨y, hy, e⟩ := List.mem_map.mp hm
        have := z y hy
        rw [is_nI (hI y hy), decide_eq_true e] at this
        cases this
      have pmI : (ys'.map nI).Perm (kk i :: ys.map nI) := pm.map nI
      refine wpAny_pure ⟨plainId_quiet F.plain_set_update_loop _, ih (i + 1) _ (by omega) hlt (W.frame _ s' _ _ st' (Nat.le_add_right _ _) fun b hb o e => ?_) kept2 ⟨ys', X', fun y hy' => ?_, ?_, fun d => ?_, ?_⟩ fun s2 mv2 k2 f2 => ?_⟩
      · rw [sb.2 b fun y => hSf (by rw [← y]; exact hb)]
        exact e
      · rcases List.mem_cons.mp (pm.mem_iff.mp hy') with rfl | hy'
        · exact ⟨_, _, rfl⟩
        · exact hI y hy'
      · exact pmI.nodup_iff.mpr (List.nodup_cons.mpr ⟨hno, nd⟩)
      · rw [pmI.mem_iff, List.mem_cons, hm2]
        constructor
        · rintro (e | ⟨j, hj, e⟩)
          · exact ⟨i, by omega, e.symm⟩
          · exact ⟨j, by omega, e⟩
        · rintro ⟨j, hj, e⟩
          rcases Nat.lt_or_ge j i with y | y
          · exact .inr ⟨j, y, e⟩
          · obtain rfl : j = i := by omega
            exact .inl e.symm
      · rw [pm.length_eq, List.length_cons]
        omega
      · refine hR s2 (Moved.trans W.gtrans ((mv.mono more).then_heap (Nat.le_add_right _ _) fun b o hb e => ?_) mv2) k2 f2
        rw [sb.2 b fun y => hb (by rw [y]; exact List.mem_cons_self)]
        exact e
theorem farI_none {h : Heap} {S : Addr} {kk : Nat → Int} {led : Bool} (hled : led = !(w.params.followText "set-order")) (g : h.get? S = some (newS led)) : FarI w S kk 0 h := by
  refine ⟨[], ⟨_, #[], 0, .fresh 0 0 led, g, ⟨rfl, rfl, rfl⟩, rfl, ⟨rfl, ⟨⟨.inl rfl, rfl, fun a b x y _ q => ?_, fun i j q => ?_⟩, rfl, fun i j c q => ?_⟩, by show 0 * 5 < 7 * 3; decide, hled⟩⟩, (fun y z => nomatch z), List.nodup_nil, (fun d => ⟨(fun z => nomatch z), (fun ⟨j, z, _⟩ => absurd z (Nat.not_lt_zero _))⟩), Nat.le_refl _⟩
  · have q : (#[] : Array Nat)[a]? = some x := q
    simp at q
  · have q : (#[] : Array Nat)[i]? = some j := q
    simp at q
  · simp at q
structure ItN (prog : Program) (w : World) (A : Around) (l : Addr) (n : Nat) (P : Nat → Value → Prop) (I : Addr) (h1 h2 : Heap) : Prop where
  new : I = h1.objs.size
  kept : Kept h1 h2
  wk : ∃ St : Nat → Heap → Prop, Walks prog w A I [I, l] [I] n P St ∧ St 0 h2
theorem call_setI {A : Around} {E : Value → Shared → Prop} {s : Shared} {l : Addr} {vs : Array Value} {kk : Nat → Int} {Q : Value → Shared → Prop} (noh : A.handled = none) (isl : s.heap.IsList l vs) (hI : ∀ (i : Nat) (v : Value), vs[i]? = some v → ∃ tk, v = .int (kk i) tk) (few : vs.size ≤ 64)
    (fin : ∀ (h' : Heap) (tk : Nat), FarI w s.heap.objs.size kk vs.size h' → Kept s.heap h' → Q (.ref s.heap.objs.size) { s with heap := h', toks := tk }) : wpAny (model prog w) A (call (.type "set") [.ref l]) Q E s := by
  obtain ⟨ol, lo, lc, ln, ld⟩ := id isl
  have lt0 : l < s.heap.objs.size := Heap.lt_size lo
  have noh3 : A.in1.in1.in1.handled = none := by simp [noh]
  have none_at : ∀ b : Nat, s.heap.objs.size ≤ b → s.heap.get? b = none := fun b hb => by
    cases q : s.heap.get? b with
    | none => rfl
    | some o => exact absurd (Heap.lt_size q) (Nat.not_lt.mpr hb)
  refine call_setW (IF := fun I h1 h2 => Kept s.heap h1 → ItN prog w A.in1.in1.in1 l vs.size (fun i v => vs[i]? = some v) I h1 h2) (Fi := FarI w s.heap.objs.size kk vs.size) lo lc F.sub_list_set F.sub_list_frozenset (by decide) (fun h1 Q1 E1 k1 hq => ?_) (fun led I h2 R hled hIF hR => ?_) fin
  · have isl1 : h1.IsList l vs := isl.at fun o e => k1 _ _ e
    have lt1 : l < h1.objs.size := Heap.lt_size (k1 _ _ lo)
    refine wpAny_pyIter_list (s := { s with heap := h1 }) isl1 (hq _ _ fun _ => ⟨rfl, fun b o e => Heap.get?_push_of_some _ e, _, Walks.list noh3 _ l (Nat.ne_of_lt lt1) vs, ⟨⟨_, Heap.get?_push_size _ rfl, rfl, rfl⟩, isl1.push _⟩⟩)
  · have kp : Kept s.heap (s.heap.push (newS led)) := fun b o e => Heap.get?_push_of_some _ e
    obtain ⟨rfl, k2, St, W, st⟩ := hIF kp
    have sz1 : (s.heap.push (newS led)).objs.size = s.heap.objs.size + 1 := Heap.size_push _ _
    have notF : s.heap.objs.size ∉ [(s.heap.push (newS led)).objs.size, l] := by
      rw [sz1]
      simp only [List.mem_cons, List.not_mem_nil, or_false, not_or]
      exact ⟨Nat.ne_of_lt (Nat.lt_succ_self _), Nat.ne_of_gt lt0⟩
    refine fill_I W.toS notF (h0 := s.heap) (fun i v hv => hI i v hv) few (none_at _ (Nat.le_refl _)) (fun b hb => ?_) (vs.size - 0) 0 _ (by omega) (Nat.zero_le _) st (fun b o e => k2 _ _ (kp b o e)) (farI_none hled (k2 _ _ (Heap.get?_push_size _ rfl))) fun s3 mv k3 f3 => ?_
    · rw [List.mem_singleton.mp hb, sz1]
      exact none_at _ (Nat.le_succ _)
    · obtain ⟨h3, g3, d3, t3, o3⟩ := s3
      obtain rfl : g3 = s.gens := mv.gens
      obtain rfl : d3 = s.drawn := mv.drawn
      obtain rfl : o3 = s.os := mv.os
      exact hR h3 t3 f3 k3
theorem call_setTT {A : Around} {E : Value → Shared → Prop} {s : Shared} {l : Addr} {vs : Array Value} {kk : Nat → PyData} {ad : Nat → Addr} {Q : Value → Shared → Prop} (noh : A.handled = none) (isl : IsTup s.heap l vs) (hit : ∀ (i : Nat) (v : Value), vs[i]? = some v → v = .ref (ad i)) (hk : ∀ i, i < vs.size → (pdKind prog w).is s.heap (kk i) (ad i)) (few : vs.size ≤ 64) (hu : A.units + 64 < cLine)
    (fin : ∀ (h' : Heap) (tk : Nat), Far prog w s.heap s.heap.objs.size kk ad vs.size h' → Kept s.heap h' → Q (.ref s.heap.objs.size) { s with heap := h', toks := tk }) : wpAny (model prog w) A (call (.type "set") [.ref l]) Q E s := by
  obtain ⟨ol, lo, lc, ln, ld⟩ := id isl
  have lt0 : l < s.heap.objs.size := Heap.lt_size lo
  have noh3 : A.in1.in1.in1.handled = none := by simp [noh]
  have none_at : ∀ b : Nat, s.heap.objs.size ≤ b → s.heap.get? b = none := fun b hb => by
    cases q : s.heap.get? b with
    | none => rfl
    | some o => exact absurd (Heap.lt_size q) (Nat.not_lt.mpr hb)
  refine call_setW (IF := fun I h1 h2 => Kept s.heap h1 → ItN prog w A.in1.in1.in1 l vs.size (fun i v => vs[i]? = some v) I h1 h2) (Fi := Far prog w s.heap s.heap.objs.size kk ad vs.size) lo lc F.sub_tuple_set F.sub_tuple_frozenset (by decide) (fun h1 Q1 E1 k1 hq => ?_) (fun led I h2 R hled hIF hR => ?_) fin
  · have isl1 : IsTup h1 l vs := IsTup.keeps isl fun b o e => k1 _ _ e
    have lt1 : l < h1.objs.size := Heap.lt_size (k1 _ _ lo)
    refine wpAny_pyIter_tuple (s := { s with heap := h1 }) (show h1.IsTuple l vs from isl1) (hq _ _ fun _ => ⟨rfl, fun b o e => Heap.get?_push_of_some _ e, _, Walks.tuple noh3 _ l (Nat.ne_of_lt lt1) vs, ⟨⟨_, Heap.get?_push_size _ rfl, rfl, rfl⟩, IsTup.keeps isl1 fun b o e => Heap.get?_push_of_some _ e⟩⟩)
  · have kp : Kept s.heap (s.heap.push (newS led)) := fun b o e => Heap.get?_push_of_some _ e
    obtain ⟨rfl, k2, St, W, st⟩ := hIF kp
    have sz1 : (s.heap.push (newS led)).objs.size = s.heap.objs.size + 1 := Heap.size_push _ _
    have notF : s.heap.objs.size ∉ [(s.heap.push (newS led)).objs.size, l] := by
      rw [sz1]
      simp only [List.mem_cons, List.not_mem_nil, or_false, not_or]
      exact ⟨Nat.ne_of_lt (Nat.lt_succ_self _), Nat.ne_of_gt lt0⟩
    refine fill_T W.toS notF hit hk few (by show A.units + 1 + 1 + 16 < cLine; omega) (none_at _ (Nat.le_refl _)) (fun b hb => ?_) (vs.size - 0) 0 _ (by omega) (Nat.zero_le _) st (fun b o e => k2 _ _ (kp b o e)) (far_none hled (k2 _ _ (Heap.get?_push_size _ rfl))) fun s3 mv k3 f3 => ?_
    · rw [List.mem_singleton.mp hb, sz1]
      exact none_at _ (Nat.le_succ _)
    · obtain ⟨h3, g3, d3, t3, o3⟩ := s3
      obtain rfl : g3 = s.gens := mv.gens
      obtain rfl : d3 = s.drawn := mv.drawn
      obtain rfl : o3 = s.os := mv.os
      exact hR h3 t3 f3 k3
end
end L2
namespace L2
open PySem PySem.Spec PyProof.Rows PySem.SetTable
def dedI : List Int → List Int
  | [] => []
  | d :: l => if d ∈ dedI l then dedI l else d :: dedI l
theorem dedI_mem : ∀ (l : List Int) (d : Int), d ∈ dedI l ↔ d ∈ l
  | [], d => Iff.rfl
  | x :: l, d => by
    rw [dedI]
    have ih := dedI_mem l
    split
    · rename_i h
      rw [ih, List.mem_cons]
      refine ⟨.inr, fun z => z.elim (fun e => ?_) id⟩
      rw [e]
      exact (ih x).mp h
    · rw [List.mem_cons, List.mem_cons, ih]
theorem dedI_nd : ∀ l : List Int, (dedI l).Nodup
  | [] => List.nodup_nil
  | x :: l => by
    rw [dedI]
    split
    · exact dedI_nd l
    · rename_i h
      exact List.nodup_cons.mpr ⟨h, dedI_nd l⟩
theorem dedI_len (l : List Int) : (dedI l).length ≤ l.length := by
  induction l with
  | nil => exact Nat.le_refl _
  | cons x l ih =>
    rw [dedI, List.length_cons]
    split
    · omega
    · rw [List.length_cons]
      omega
def SetIB (w : World) (a : Addr) (ns : List Int) (h : Heap) : Prop := ∃ ys, SetGX w a ys h ∧ (∀ y ∈ ys, ∃ k tk, y = (hashInt k, Value.int k tk)) ∧ (ys.map nI).Perm (dedI ns)
theorem SetIB.len {w : World} {a : Addr} {ns : List Int} {h : Heap} {ys : List (Int × Value)} (h : (ys.map nI).Perm (dedI ns)) : ys.length = (dedI ns).length := by
  have := h.length_eq
  rw [List.length_map] at this
  exact this
def rSetIL (K : PySem.W.Frag) (w : World) : List V → Hp → VK → Prop := fun xs H Q => ∃ (p : Addr) (ns : List Int), xs = [.ref p] ∧ SqL K H p (ns.map V.int) ∧ ns.length ≤ 64 ∧ ∀ a, H a = none → Q (.ref a) (upd H a (.ext (SetIB w a ns)))
def rSetIT (K : PySem.W.Frag) (w : World) : List V → Hp → VK → Prop := fun xs H Q => ∃ (p : Addr) (ns : List Int), xs = [.ref p] ∧ SqT K H p (ns.map V.int) ∧ ns.length ≤ 64 ∧ ∀ a, H a = none → Q (.ref a) (upd H a (.ext (SetIB w a ns)))
section
variable {prog : Program} {w : World}
theorem far_IB {S : Addr} {ns : List Int} {h : Heap} (F : FarI w S (fun i => ns.getD i 0) ns.length h) : SetIB w S ns h := by
  obtain ⟨ys, X, hI, nd, mem, _⟩ := F
  refine ⟨ys, X, hI, (List.perm_ext_iff_of_nodup nd (dedI_nd ns)).mpr fun d => ?_⟩
  rw [mem, dedI_mem]
  constructor
  · rintro ⟨j, hj, rfl⟩
    show ns.getD j 0 ∈ ns
    rw [List.getD_eq_getElem?_getD, List.getElem?_eq_getElem hj]
    exact List.getElem_mem hj
  · intro hd
    obtain ⟨j, hj, e⟩ := List.getElem_of_mem hd
    refine ⟨j, hj, ?_⟩
    show ns.getD j 0 = d
    rw [List.getD_eq_getElem?_getD, List.getElem?_eq_getElem hj]
    exact e
theorem call_setITp {A : Around} {E : Value → Shared → Prop} {s : Shared} {l : Addr} {vs : Array Value} {kk : Nat → Int} {Q : Value → Shared → Prop} (noh : A.handled = none) (isl : IsTup s.heap l vs) (hI : ∀ (i : Nat) (v : Value), vs[i]? = some v → ∃ tk, v = .int (kk i) tk) (few : vs.size ≤ 64)
    (fin : ∀ (h' : Heap) (tk : Nat), FarI w s.heap.objs.size kk vs.size h' → Kept s.heap h' → Q (.ref s.heap.objs.size) { s with heap := h', toks := tk }) : wpAny (model prog w) A (call (.type "set") [.ref l]) Q E s := by
  obtain ⟨ol, lo, lc, ln, ld⟩ := id isl
  have lt0 : l < s.heap.objs.size := Heap.lt_size lo
  have noh3 : A.in1.in1.in1.handled = none := by simp [noh]
  have none_at : ∀ b : Nat, s.heap.objs.size ≤ b → s.heap.get? b = none := fun b hb => by
    cases q : s.heap.get? b with
    | none => rfl
    | some o => exact absurd (Heap.lt_size q) (Nat.not_lt.mpr hb)
  refine call_setW (IF := fun I h1 h2 => Kept s.heap h1 → ItN prog w A.in1.in1.in1 l vs.size (fun i v => vs[i]? = some v) I h1 h2) (Fi := FarI w s.heap.objs.size kk vs.size) lo lc F.sub_tuple_set F.sub_tuple_frozenset (by decide) (fun h1 Q1 E1 k1 hq => ?_) (fun led I h2 R hled hIF hR => ?_) fin
  · have isl1 : IsTup h1 l vs := IsTup.keeps isl fun b o e => k1 _ _ e
    have lt1 : l < h1.objs.size := Heap.lt_size (k1 _ _ lo)
    refine wpAny_pyIter_tuple (s := { s with heap := h1 }) (show h1.IsTuple l vs from isl1) (hq _ _ fun _ => ⟨rfl, fun b o e => Heap.get?_push_of_some _ e, _, Walks.tuple noh3 _ l (Nat.ne_of_lt lt1) vs, ⟨⟨_, Heap.get?_push_size _ rfl, rfl, rfl⟩, IsTup.keeps isl1 fun b o e => Heap.get?_push_of_some _ e⟩⟩)
  · have kp : Kept s.heap (s.heap.push (newS led)) := fun b o e => Heap.get?_push_of_some _ e
    obtain ⟨rfl, k2, St, W, st⟩ := hIF kp
    have sz1 : (s.heap.push (newS led)).objs.size = s.heap.objs.size + 1 := Heap.size_push _ _
    have notF : s.heap.objs.size ∉ [(s.heap.push (newS led)).objs.size, l] := by
      rw [sz1]
      simp only [List.mem_cons, List.not_mem_nil, or_false, not_or]
      exact ⟨Nat.ne_of_lt (Nat.lt_succ_self _), Nat.ne_of_gt lt0⟩
    refine fill_I W.toS notF (h0 := s.heap) (fun i v hv => hI i v hv) few (none_at _ (Nat.le_refl _)) (fun b hb => ?_) (vs.size - 0) 0 _ (by omega) (Nat.zero_le _) st (fun b o e => k2 _ _ (kp b o e)) (farI_none hled (k2 _ _ (Heap.get?_push_size _ rfl))) fun s3 mv k3 f3 => ?_
    · rw [List.mem_singleton.mp hb, sz1]
      exact none_at _ (Nat.le_succ _)
    · obtain ⟨h3, g3, d3, t3, o3⟩ := s3
      obtain rfl : g3 = s.gens := mv.gens
      obtain rfl : d3 = s.drawn := mv.drawn
      obtain rfl : o3 = s.os := mv.os
      exact hR h3 t3 f3 k3
end
section
variable {X : Cx}
theorem vals_intsA {ns : List Int} {its : List Value} (rv : Vals (ns.map V.int) its) : ∀ (i : Nat) (v : Value), its.toArray[i]? = some v → ∃ tk, v = .int (ns.getD i 0) tk := fun i v hv => by
  have hl := rv.length
  rw [List.length_map] at hl
  have hv : its[i]? = some v := by simpa using hv
  have hi : i < ns.length := by
    have := (List.getElem?_eq_some_iff.mp hv).1
    omega
  obtain ⟨u, hu', r⟩ := rv.get (show (ns.map V.int)[i]? = some (V.int ns[i]) from by rw [List.getElem?_map, List.getElem?_eq_getElem hi]; rfl)
  rw [hv] at hu'
  cases hu'
  rw [List.getD_eq_getElem?_getD, List.getElem?_eq_getElem hi]
  obtain ⟨tk, e⟩ := r
  exact ⟨tk, e⟩
theorem setIB_ok {pins : List (Addr × Obj)} {σ : St} {H : Hp} {s : Shared} {h' : Heap} {tk : Nat} {ns : List Int} (I : Inv X pins σ H s) (kept : Kept s.heap h') (B : SetIB X.w s.heap.objs.size ns h') : Inv X pins σ (upd H s.heap.objs.size (.ext (SetIB X.w s.heap.objs.size ns))) { s with heap := h', toks := tk } := by
  obtain ⟨ys, S, r⟩ := id B
  obtain ⟨o, es, ep, t, ho, _⟩ := id S
  refine I.laid (h' := h') (o := .ext (SetIB X.w s.heap.objs.size ns)) (t' := tk) kept (Nat.le_refl _) ⟨B, ⟨o, ho⟩, fun g1 g2 hg hk2 => ?_⟩
  obtain ⟨ys', S', r'⟩ := hg
  exact ⟨ys', S'.moved hk2, r'⟩
theorem call_setIL (hc : X.calm = true) : CallR X (.type "set") (rSetIL X.K X.w) := by
  intro pins s σ H xs us Q I r h
  obtain ⟨p, ns, rfl, hq, h64, q⟩ := h
  obtain ⟨u, rfl, rx⟩ := vals1 r
  cases (show u = Value.ref p from rx)
  obtain ⟨its, rv, pl, hz⟩ := I.list hq
  have hl := rv.length
  rw [List.length_map] at hl
  have sz : its.toArray.size = ns.length := by simp; omega
  refine call_setI (kk := fun i => ns.getD i 0) (I.ok.hd hc) pl.isList (vals_intsA rv) (by rw [sz]; exact h64) fun h' tk far kept => ?_
  rw [sz] at far
  exact ⟨.ref s.heap.objs.size, _, setIB_ok I kept (far_IB far), rfl, q _ I.fresh⟩
theorem call_setIT (hc : X.calm = true) : CallR X (.type "set") (rSetIT X.K X.w) := by
  intro pins s σ H xs us Q I r h
  obtain ⟨p, ns, rfl, hq, h64, q⟩ := h
  obtain ⟨u, rfl, rx⟩ := vals1 r
  cases (show u = Value.ref p from rx)
  obtain ⟨its, rv, pl, hz⟩ := I.tuple hq
  have hl := rv.length
  rw [List.length_map] at hl
  have sz : its.toArray.size = ns.length := by simp; omega
  refine call_setITp (kk := fun i => ns.getD i 0) (I.ok.hd hc) pl (vals_intsA rv) (by rw [sz]; exact h64) fun h' tk far kept => ?_
  rw [sz] at far
  exact ⟨.ref s.heap.objs.size, _, setIB_ok I kept (far_IB far), rfl, q _ I.fresh⟩
def rSortSI (w : World) : List V → Hp → VK → Prop := fun xs H Q => ∃ (p : Addr) (ns : List Int), xs = [.ref p] ∧ H p = some (.ext (SetIB w p ns)) ∧ (dedI ns).length < 64 ∧ ∀ a, H a = none → Q (.ref a) (upd H a (.lst ((sortI (dedI ns)).map V.int)))
theorem call_sortedSI (hc : X.calm = true) : CallR X (.builtin "sorted") (rSortSI X.w) := by
  intro pins s σ H xs us Q I r h
  obtain ⟨p, ns, rfl, hH, h64, q⟩ := h
  obtain ⟨u, rfl, rx⟩ := vals1 r
  cases (show u = Value.ref p from rx)
  obtain ⟨⟨ys, S, hI, pm⟩, _, _⟩ := (show ObjOk X.prog X.w H s.heap p (.ext (SetIB X.w p ns)) from I.hok p _ hH)
  have yl : ys.length = (dedI ns).length := by
    have := pm.length_eq
    rw [List.length_map] at this
    exact this
  refine sorted_setI (I.ok.hd hc) S (by omega) hI fun out ns' a1 a2 a3 a h' d tk e ha kept he => ?_
  have ee : ns' = sortI (dedI ns) := sorted_uni ((a2.trans pm).trans (sortI_perm _).symm) a3 (sortI_inc _)
  have ln : ns'.length = (dedI ns).length := (a2.trans pm).length_eq
  have I2 := (I.laid (h' := h') (a := a) (o := .lst (ns'.map V.int)) (t' := tk) kept ha ⟨by rw [List.length_map, ln]; exact Nat.le_trans (Nat.le_of_lt h64) (by decide), out, e, vals_of a1, he⟩).drawn' d
  exact ⟨.ref a, _, I2, rfl, by rw [ee]; exact q _ (I.hok.fresh ha)⟩
theorem call_lenIB : CallR X (.builtin "len") (fun xs H Q => ∃ (p : Addr) (ns : List Int), xs = [.ref p] ∧ ns.length ≤ 64 ∧ H p = some (.ext (SetIB X.w p ns)) ∧ Q (.int (dedI ns).length) H) := by
  intro pins s σ H xs us Q I r h
  obtain ⟨p, ns, rfl, hn, hH, q⟩ := h
  obtain ⟨u, rfl, rx⟩ := vals1 r
  cases (show u = Value.ref p from rx)
  obtain ⟨⟨ys, ⟨o, es, ep, t, ho, hex, hd, T⟩, hI, pm⟩, _, _⟩ := (show ObjOk X.prog X.w H s.heap p (.ext (SetIB X.w p ns)) from I.hok p _ hH)
  have yl : ys.length = (dedI ns).length := by
    have := pm.length_eq
    rw [List.length_map] at this
    exact this
  have dl := dedI_len ns
  refine call_len_set ho hex hd T.fits ?_ ⟨.int (dedI ns).length, H, I.tok _, ⟨_, by rw [T.size, yl]⟩, q⟩
  rw [T.size, yl]
  omega
noncomputable def rSetTP (K : PySem.W.Frag) (w : World) : List V → Hp → VK → Prop := fun xs H Q => ∃ (p : Addr) (bs : List Addr) (ds : List PyData), xs = [.ref p] ∧ SqT K H p (bs.map V.ref) ∧ Paired (fun b d => KeyIn K H d (.ref b)) bs ds ∧ ds.length ≤ 60 ∧ ∀ a, H a = none → Q (.ref a) (upd H a (.ext (SetN w a (dedP ds).length)))
theorem call_setTP (hc : X.calm = true) (hu : X.A.units + 64 < cLine) : CallR X (.type "set") (rSetTP X.K X.w) := by
  intro pins s σ H xs us Q I r h
  obtain ⟨p, bs, ds, rfl, hq, hp, h60, q⟩ := h
  obtain ⟨u, rfl, rx⟩ := vals1 r
  cases (show u = Value.ref p from rx)
  obtain ⟨its, rv, pl, hz⟩ := I.tuple hq
  have hl := rv.length
  have hbl := Paired.length hp
  rw [List.length_map] at hl
  have hit : ∀ (i : Nat) (v : Value), its.toArray[i]? = some v → v = .ref (bs.getD i 0) := fun i v hv => by
    have hv : its[i]? = some v := by simpa using hv
    have hi : i < bs.length := by
      have := (List.getElem?_eq_some_iff.mp hv).1
      omega
    obtain ⟨u, hu', r⟩ := rv.get (show (bs.map V.ref)[i]? = some (V.ref bs[i]) from by rw [List.getElem?_map, List.getElem?_eq_getElem hi]; rfl)
    rw [hv] at hu'
    cases hu'
    rw [List.getD_eq_getElem?_getD, List.getElem?_eq_getElem hi]
    exact r
  have hk : ∀ i, i < its.toArray.size → (pdKind X.prog X.w).is s.heap (ds.getD i .none) (bs.getD i 0) := fun i hi => by
    have hi : i < its.length := by simpa using hi
    have h1 : bs[i]? = some (bs[i]'(by omega)) := List.getElem?_eq_getElem _
    have h2 : ds[i]? = some (ds[i]'(by omega)) := List.getElem?_eq_getElem _
    have k := key_is I (paired_get hp i _ _ h1 h2)
    rw [List.getD_eq_getElem?_getD, List.getD_eq_getElem?_getD, h1, h2]
    exact k
  have sz : its.toArray.size = ds.length := by simp; omega
  refine call_setTT (kk := fun i => ds.getD i .none) (ad := fun i => bs.getD i 0) (I.ok.hd hc) pl hit hk (by rw [sz]; omega) (by omega) fun h' tk far kept => ?_
  obtain ⟨ys, S, nd, _, mem, _⟩ := far
  have len : ys.length = (dedP ds).length := by
    have e : (ys.map (·.1)).Perm (dedP ds) := (List.perm_ext_iff_of_nodup nd (dedP_nd ds)).mpr fun d => by
      rw [mem, dedP_mem, sz]
      constructor
      · rintro ⟨j, hj, rfl⟩
        show ds.getD j .none ∈ ds
        rw [List.getD_eq_getElem?_getD, List.getElem?_eq_getElem hj]
        exact List.getElem_mem hj
      · intro hd
        obtain ⟨j, hj, e⟩ := List.getElem_of_mem hd
        refine ⟨j, hj, ?_⟩
        show ds.getD j .none = d
        rw [List.getD_eq_getElem?_getD, List.getElem?_eq_getElem hj]
        exact e
    have := e.length_eq
    rw [List.length_map] at this
    exact this
  obtain ⟨o, es, ep, t, ho, _⟩ := id S
  refine ⟨.ref s.heap.objs.size, _, I.laid (h' := h') (o := .ext (SetN X.w s.heap.objs.size (dedP ds).length)) (t' := tk) kept (Nat.le_refl _) ⟨⟨ys, len, S⟩, ⟨o, ho⟩, fun g1 g2 hg hk2 => ?_⟩, rfl, q _ I.fresh⟩
  obtain ⟨ys', l', S'⟩ := hg
  exact ⟨ys', l', S'.moved hk2⟩
end
end L2
namespace DL
open PySem PySem.Spec L2
section
variable {X : Cx} {K : PySem.W.Frag} {mg : Str → Option Value} {ww : World} {E : XK} {ow : List Bool} {a : Expr} {ms : Ev → R (List D)} {p p2 pos pos2 : Pos}
def sortedSetI : List D → R D
  | [.lst l] => ofInts (fun ns => if ns.length < 64 then .ok (.lst ((sortI (dedI ns)).map D.int)) else .bad) l
  | _ => .bad
def lenSetIT : List D → R D
  | [.tup l] => ofInts (fun ns => if ns.length ≤ 64 then .ok (.int (dedI ns).length) else .bad) l
  | _ => .bad
noncomputable def lenSetTP : List D → R D
  | [.tup l] => if l.all okKey = true ∧ l.length ≤ 60 then .ok (.int (dedP (toPs l)).length) else .bad
  | _ => .bad
def rSortedSetI (K : PySem.W.Frag) (w : World) : List V → Hp → VK → Prop := fun xs H Q => ∃ (p : Addr) (ns : List Int), xs = [.ref p] ∧ SqL K H p (ns.map V.int) ∧ ns.length ≤ 64 ∧ ∀ a, H a = none → rSortSI w [.ref a] (upd H a (.ext (SetIB w a ns))) Q
def rLenSetIT (K : PySem.W.Frag) (w : World) : List V → Hp → VK → Prop := fun xs H Q => ∃ (p : Addr) (ns : List Int), xs = [.ref p] ∧ SqT K H p (ns.map V.int) ∧ ns.length ≤ 64 ∧ ∀ a, H a = none → ∃ (p' : Addr) (ns' : List Int), [V.ref a] = [.ref p'] ∧ ns'.length ≤ 64 ∧ upd H a (.ext (SetIB w a ns)) p' = some (.ext (SetIB w p' ns')) ∧ Q (.int (dedI ns').length) (upd H a (.ext (SetIB w a ns)))
noncomputable def rLenSetTP (K : PySem.W.Frag) (w : World) : List V → Hp → VK → Prop := fun xs H Q => ∃ (p : Addr) (bs : List Addr) (ds : List PyData), xs = [.ref p] ∧ SqT K H p (bs.map V.ref) ∧ Paired (fun b d => KeyIn K H d (.ref b)) bs ds ∧ ds.length ≤ 60 ∧ ∀ a, H a = none → ∃ (p' : Addr) (n : Nat), [V.ref a] = [.ref p'] ∧ n ≤ 60 ∧
  upd H a (.ext (SetN w a (dedP ds).length)) p' = some (.ext (SetN w p' n)) ∧ Q (.int n) (upd H a (.ext (SetN w a (dedP ds).length)))
theorem o_sortedSetI : OpN K mg ww .f (rSortedSetI K ww) sortedSetI := by
  intro E os H xs ds Q dm hp o
  unfold sortedSetI at o
  split at o
  · rename_i l
    unfold ofInts at o
    split at o
    · rename_i ns hb
      dsimp only at o
      split at o
      · rename_i hl
        obtain ⟨x, rfl, hx⟩ := pair1 hp
        obtain ⟨p, ys, rfl, h1, h2⟩ := hx.lst
        have dl := dedI_len ns
        refine ⟨p, ns, rfl, by rw [← ints_is hb h2]; exact SqL.of h1, by omega, fun a ha => ⟨a, ns, rfl, upd_same, by omega, fun a2 ha2 => ?_⟩⟩
        have hn : H a2 = none := by
          by_cases e : a2 = a
          · rw [e]; exact ha
          · rw [upd_ne e] at ha2; exact ha2
        exact o _ _ (Wv.same_upd (Wv.same_new ha) hn) ⟨a2, rfl, hn, _, upd_same, isDs_ints _⟩
      · exact o.elim
    · exact o.elim
  · exact o.elim
theorem o_lenSetIT : OpN K mg ww .d (rLenSetIT K ww) lenSetIT := by
  intro E os H xs ds Q dm hp o
  unfold lenSetIT at o
  split at o
  · rename_i l
    unfold ofInts at o
    split at o
    · rename_i ns hb
      dsimp only at o
      split at o
      · rename_i hl
        obtain ⟨x, rfl, hx⟩ := pair1 hp
        obtain ⟨p, ys, rfl, h1, _, h2⟩ := hx.tup
        exact ⟨p, ns, rfl, by rw [← ints_is hb h2]; exact h1, hl, fun a ha => ⟨a, ns, rfl, hl, upd_same, o _ _ (Wv.same_new ha) rInt⟩⟩
      · exact o.elim
    · exact o.elim
  · exact o.elim
theorem o_lenSetTP : OpN K mg ww .d (rLenSetTP K ww) lenSetTP := by
  intro E os H xs ds Q dm hp o
  unfold lenSetTP at o
  split at o
  · rename_i l
    split at o
    · rename_i hl
      obtain ⟨x, rfl, hx⟩ := pair1 hp
      obtain ⟨p, ys, rfl, h1, _, h2⟩ := hx.tup
      obtain ⟨bs, rfl, hpr⟩ := keys_pair hide_le hl.1 h2
      have z := dedP_len (toPs l)
      rw [toPs_len] at z
      exact ⟨p, bs, toPs l, rfl, h1, hpr, by rw [toPs_len]; exact hl.2, fun a ha => ⟨a, _, rfl, by omega, upd_same, o _ _ (Wv.same_new ha) rInt⟩⟩
    · exact o.elim
  · exact o.elim
theorem e_sortedSetI (hl : X.mg "sorted" = none) (hs : X.mg "set" = none) (ha : PA X [a] (tA K mg ww .b E ow ms)) (hc : X.calm = true := by rfl) (hK : X.K = K := by rfl) (hw : X.w = ww := by rfl) (hg : Gl X "sorted" := by rfl) (hg2 : Gl X "set" := by rfl)
    (he2 : starEach [a] X.env = (false, eval a X.env) :: starEach [] X.env := by rfl) (hpl2 : (backTo pos2 (starEach [] X.env)).any (·.1) = false := by rfl)
    (he : starEach [.Call (.Name "set" p2) [a] [] pos2] X.env = (false, eval (.Call (.Name "set" p2) [a] [] pos2) X.env) :: starEach [] X.env := by rfl) (hpl : (backTo pos (starEach [] X.env)).any (·.1) = false := by rfl) :
    PE X (.Call (.Name "sorted" p) [.Call (.Name "set" p2) [a] [] pos2] [] pos) (tE K mg ww .f E ow (mFn sortedSetI ms)) := by
  subst hK hw
  exact (pe_callB (call_sortedSI hc) hg hl Wv.bt_sorted (pa_cons (pe_callTy (call_setIL hc) hg2 hs Wv.bt_set ha (by decide) (by decide) he2 hpl2) pa_nil he) (by decide) (by decide) he hpl).mono fun σ H Q h => fn_go (K := X.K) (mg := mg) (r := rSortedSetI X.K X.w) o_sortedSetI h
theorem e_lenSetIT (hl : X.mg "len" = none) (hs : X.mg "set" = none) (ha : PA X [a] (tA K mg ww .b E ow ms)) (hc : X.calm = true := by rfl) (hK : X.K = K := by rfl) (hw : X.w = ww := by rfl) (hg : Gl X "len" := by rfl) (hg2 : Gl X "set" := by rfl)
    (he2 : starEach [a] X.env = (false, eval a X.env) :: starEach [] X.env := by rfl) (hpl2 : (backTo pos2 (starEach [] X.env)).any (·.1) = false := by rfl)
    (he : starEach [.Call (.Name "set" p2) [a] [] pos2] X.env = (false, eval (.Call (.Name "set" p2) [a] [] pos2) X.env) :: starEach [] X.env := by rfl) (hpl : (backTo pos (starEach [] X.env)).any (·.1) = false := by rfl) :
    PE X (.Call (.Name "len" p) [.Call (.Name "set" p2) [a] [] pos2] [] pos) (tE K mg ww .d E ow (mFn lenSetIT ms)) := by
  subst hK hw
  exact (pe_callB call_lenIB hg hl Wv.bt_len (pa_cons (pe_callTy (call_setIT hc) hg2 hs Wv.bt_set ha (by decide) (by decide) he2 hpl2) pa_nil he) (by decide) (by decide) he hpl).mono fun σ H Q h => fn_go (K := X.K) (mg := mg) (r := rLenSetIT X.K X.w) o_lenSetIT h
theorem e_lenSetTP (hu : X.A.units + 64 < cLine) (hl : X.mg "len" = none) (hs : X.mg "set" = none) (ha : PA X [a] (tA K mg ww .b E ow ms)) (hc : X.calm = true := by rfl) (hK : X.K = K := by rfl) (hw : X.w = ww := by rfl) (hg : Gl X "len" := by rfl) (hg2 : Gl X "set" := by rfl)
    (he2 : starEach [a] X.env = (false, eval a X.env) :: starEach [] X.env := by rfl) (hpl2 : (backTo pos2 (starEach [] X.env)).any (·.1) = false := by rfl)
    (he : starEach [.Call (.Name "set" p2) [a] [] pos2] X.env = (false, eval (.Call (.Name "set" p2) [a] [] pos2) X.env) :: starEach [] X.env := by rfl) (hpl : (backTo pos (starEach [] X.env)).any (·.1) = false := by rfl) :
    PE X (.Call (.Name "len" p) [.Call (.Name "set" p2) [a] [] pos2] [] pos) (tE K mg ww .d E ow (mFn lenSetTP ms)) := by
  subst hK hw
  exact (pe_callB call_lenT hg hl Wv.bt_len (pa_cons (pe_callTy (call_setTP hc hu) hg2 hs Wv.bt_set ha (by decide) (by decide) he2 hpl2) pa_nil he) (by decide) (by decide) he hpl).mono fun σ H Q h => fn_go (K := X.K) (mg := mg) (r := rLenSetTP X.K X.w) o_lenSetTP h
end
end DL
namespace L2
open PySem PySem.Spec PyProof.Rows
section
variable {X : Cx} {e : Expr} {te : TE} {p p' pos pos' : Pos}
theorem vals_getI : ∀ {xs : List V} {us : List Value}, xs.length = us.length → (∀ (i : Nat) x u, xs[i]? = some x → us[i]? = some u → RelV x u) → Vals xs us
  | [], [], _, _ => .nil
  | x :: xs, u :: us, hl, h => .cons (h 0 x u rfl rfl) (vals_getI (Nat.succ.inj hl) fun i x u hx hu => h (i + 1) x u hx hu)
def tLstRan (te : TE) : TE := fun σ H Q => te σ H fun x H1 => ∃ n : Nat, x = .int n ∧ n ≤ 100000 ∧ ∀ l, H1 l = none → Q (.ref l) (upd H1 l (.lst ((List.range n).map fun k => V.int (k : Nat))))
theorem pe_lstRan (hc : X.calm = true) (hT : X.mg "list" = none) (hR : X.mg "range" = none) (he : PE X e te) (hg : Gl X "list" := by rfl) (hg' : Gl X "range" := by rfl)
    (hs1 : starEach [Expr.Call (.Name "range" p') [e] [] pos'] X.env = [(false, eval (Expr.Call (.Name "range" p') [e] [] pos') X.env)] := by rfl) (hs2 : starEach [e] X.env = [(false, eval e X.env)] := by rfl) :
    PE X (.Call (.Name "list" p) [.Call (.Name "range" p') [e] [] pos'] [] pos) (tLstRan te) := by
  intro pins s σ H Q I h
  refine wpAny_Call_Name_kw (ld_blt I hg hT (by decide +kernel : bootBuiltins "list" = some (.type "list")) ?_)
  refine PyProof.Rows.callWith_type1 (Q := EP X pins σ Q) ?_ hs1 (by rfl)
  rw [hs1]
  show wpAny _ _ (spliced ((false, eval (Expr.Call (.Name "range" p') [e] [] pos') X.env) :: backTo pos [])) _ _ s
  refine Calls.spliced_cons ?_
  refine wpAny_Call_Name_kw (ld_blt I hg' hR boot_range ?_)
  refine PyProof.Rows.callWith_type1 ?_ hs2 (by rfl)
  rw [hs2]
  show wpAny _ _ (spliced ((false, eval e X.env) :: backTo pos' [])) _ _ s
  refine Calls.spliced_cons (thn (he pins s σ H _ I h) fun u s1 ⟨x, H1, I1, r1, q1⟩ => ?_)
  obtain ⟨n, rfl, hn, q⟩ := q1
  obtain ⟨t, rfl⟩ := r1
  refine wpAny_pure ?_
  refine call_range_1 ?_
  refine wpAny_pure ?_
  have rs : Builtin.Range.rangeSize 0 (n : Int) 1 = (n : Int) := by rw [rangeSize_one]; split <;> omega
  refine call_list_range (n := n) (I.ok.hd hc) (IsRange.new ..) (small_one (by omega) (by omega) (by omega) (by omega)) rs (by omega) fun h' tk acc c' keep0 hS' hacc => ?_
  have keep : ∀ b u, s1.heap.get? b = some u → h'.get? b = some u := fun b u e => keep0 b u (Heap.get?_push_of_some _ e)
  have sz1 : (s1.heap.push { cls := .type "range", data := .fields #[.int 0 s1.toks, .int (n : Int) t, .int 1 (s1.toks + 1)] }).objs.size = s1.heap.objs.size + 1 := Heap.size_push _ _
  have vl : Vals ((List.range n).map fun k => V.int (k : Nat)) acc.toList := by
    refine vals_getI (by rw [List.length_map, List.length_range, Array.length_toList, hacc.1]) fun i x u hx hu => ?_
    rw [List.getElem?_map] at hx
    obtain ⟨k, hk, rfl⟩ := Option.map_eq_some_iff.mp hx
    have hi : i < n := by
      have := (List.getElem?_eq_some_iff.mp hk).1
      rw [List.length_range] at this
      exact this
    rw [List.getElem?_range hi] at hk
    cases hk
    rw [Array.getElem?_toList] at hu
    obtain ⟨tk, rfl⟩ := hacc.2 i u hu
    exact ⟨tk, by simp⟩
  have I4 := I1.laid (h' := h') (a := s1.heap.objs.size + 1) (o := .lst ((List.range n).map fun k => V.int (k : Nat))) (t' := tk) keep (Nat.le_succ _) ⟨by rw [List.length_map, List.length_range]; exact Nat.le_trans hn (by decide), acc.toList, c', vl, by rw [Array.toArray_toList, ← sz1]; exact hS'⟩
  refine ⟨.ref (s1.heap.objs.size + 1), _, I4, ?_, q _ (I1.hok.fresh (Nat.le_succ _))⟩
  show RelV _ (Value.ref (s1.heap.push _).objs.size)
  rw [sz1]
  rfl
end
end L2
namespace DL
open PySem PySem.Spec L2
section
variable {X : Cx} {K : PySem.W.Frag} {mg : Str → Option Value} {ww : World} {E : XK} {ow : List Bool} {e : Expr} {m : Ev → R D} {p p' pos pos' : Pos}
def lstRanD : D → R D
  | .int i => if 0 ≤ i ∧ i ≤ 100000 then .ok (.lst (rangeD 0 i.toNat)) else .bad
  | _ => .bad
def mLstRan (m : Ev → R D) : Ev → R D := fun ρ => (m ρ).bind lstRanD
theorem e_lstRan (hT : X.mg "list" = none) (hR : X.mg "range" = none) (he : PE X e (tE K mg ww .d E ow m)) (hc : X.calm = true := by rfl) (hK : X.K = K := by rfl) (hg : Gl X "list" := by rfl) (hg' : Gl X "range" := by rfl)
    (hs1 : starEach [Expr.Call (.Name "range" p') [e] [] pos'] X.env = [(false, eval (Expr.Call (.Name "range" p') [e] [] pos') X.env)] := by rfl) (hs2 : starEach [e] X.env = [(false, eval e X.env)] := by rfl) :
    PE X (.Call (.Name "list" p) [.Call (.Name "range" p') [e] [] pos'] [] pos) (tE K mg ww .f E ow (mLstRan m)) :=
  (pe_lstRan hc hT hR he hg hg' hs1 hs2).mono fun σ H Q ⟨os, ρ, hd, o⟩ => by
    subst hK
    refine ⟨os, ρ, hd, ?_⟩
    have z := out_bind (md' := .d) o
    revert z
    cases m ρ with
    | ok d =>
      intro z u H1 s1 q1
      obtain ⟨d', e', _, _, z⟩ := z u H1 s1 q1
      cases e'
      cases d with
      | int i =>
        have q2 : IsD X.K mg ww (hide os H1) (.int i) u := q1
        rw [IsD] at q2
        subst q2
        by_cases hi : 0 ≤ i ∧ i ≤ 100000
        · rw [show lstRanD (.int i) = .ok (.lst (rangeD 0 i.toNat)) from if_pos hi] at z
          refine ⟨i.toNat, by rw [show ((i.toNat : Nat) : Int) = i by omega], by omega, fun p hp => z _ _ (Wv.same_new hp) (new_f hp ?_)⟩
          have e1 : rangeD 0 i.toNat = ((List.range i.toNat).map fun k => ((k : Nat) : Int)).map D.int := by
            unfold rangeD
            rw [List.map_map]
            refine List.map_congr_left fun k _ => ?_
            show D.int (0 + (k : Int)) = D.int (k : Int)
            rw [Int.zero_add]
          have e2 : ((List.range i.toNat).map fun k => V.int (k : Nat)) = ((List.range i.toNat).map fun k => ((k : Nat) : Int)).map V.int := by rw [List.map_map]; rfl
          rw [e1, e2]
          exact isDs_ints _
        · rw [show lstRanD (.int i) = .bad from if_neg hi] at z
          exact z.elim
      | _ => exact z.elim
    | rse c => exact fun z => z
    | bad => exact fun z => z
theorem v_lstRan {ρ : Ev} {i : Int} (h : m ρ = .ok (.int i)) (h0 : 0 ≤ i) (h1 : i ≤ 100000) : mLstRan m ρ = .ok (.lst (rangeD 0 i.toNat)) := by
  unfold mLstRan
  rw [h, R.ok_bind]
  exact if_pos ⟨h0, h1⟩
end
end DL
namespace L2
open PySem PySem.Spec PyProof.Rows
def mxK (d : Int) (kk : Nat → Int) : Nat → Int
  | 0 => d
  | i + 1 => if i = 0 then kk 0 else if kk i > mxK d kk i then kk i else mxK d kk i
theorem args_maxd (a b : Value) : argsOk "max" ⟨[a], [(Str.ofString "default", b)]⟩ := by unfold argsOk; kernel_rfl
section
variable {prog : Program} {w : World} {A : Around} {R : Result → Shared → Prop} {I : Addr} {fp wr : List Addr} {n : Nat} {P : Nat → Value → Prop} {St : Nat → Heap → Prop}
theorem maxd_loop (W : Walks prog w A.in1 I fp wr n P St) {kk : Nat → Int} (hP : ∀ i v, P i v → ∃ tk, v = .int (kk i) tk) (S : Addr) (hSf : S ∉ fp) (d : Int) (td : Tok) :
    ∀ (m i : Nat) (s : Shared) (best : Array Value) (c : Nat), n - i = m → i ≤ n → St i s.heap → s.heap.get? S = some { cls := .type "list", dict := none, data := .seq best c, slots := #[] } →
    ((i = 0 ∧ best = #[]) ∨ (0 < i ∧ ∃ tk, best = #[.int (mxK d kk i) tk, .int (mxK d kk i) tk])) →
    (∀ h' tk tv, (∀ b o, b ∉ wr → b ≠ S → s.heap.get? b = some o → h'.get? b = some o) → R (.ok (.ret (.int (mxK d kk n) tv))) { s with heap := h', toks := tk }) →
    codeAny (model prog w) A (.builtin "max.loop" ⟨[.ref I, .none, .ref S], [(Str.ofString "default", .int d td)]⟩) R s := by
  have hSw : S ∉ wr := fun h => hSf (W.sub _ h)
  have hname : (toString "max" ++ toString ".loop" : String) = "max.loop" := by decide
  intro m
  induction m with
  | zero =>
    intro i s best c hm hi st hS hb hR
    obtain rfl : i = n := by omega
    refine codeAny_builtin F.entry_max_loop ?_
    rw [Around.under_plainId F.plain_max_loop _]
    show wpAny _ A.in1 (seqItems? (.ref S) >>= _) _ _ s
    refine wpAny_bind (wpAny_seqItems hS rfl ?_)
    show wpAny _ A.in1 (tryCatch (pyNext (.ref I)) _ >>= _) _ _ s
    refine wpAny_bind (wpAny_tryCatch (W.done s _ _ st fun h' tk hk' => ?_))
    have hS' := hk' S _ hSw hS
    rcases hb with ⟨rfl, rfl⟩ | ⟨h0, tb, rfl⟩
    · show wpAny _ A.in1 (rule _ >>= fun _ => ret (.int d td)) _ _ _
      exact wpAny_bind (wpAny_rule (wpAny_pure (hR h' tk td fun b o hbw _ e => hk' b o hbw e)))
    · show wpAny _ A.in1 (updateSeq S (fun _ => #[]) >>= _) _ _ _
      refine wpAny_bind ?_
      refine wpAny_updateSeq hS' rfl (wpAny_bind (wpAny_letGo (wpAny_pure ?_)))
      exact hR _ tk tb fun b o hbw hbS e => (Heap.get?_update_other _ _ (Ne.symm hbS)).trans (hk' b o hbw e)
  | succ m ih =>
    intro i s best c hm hi st hS hb hR
    have hlt : i < n := by omega
    refine codeAny_builtin F.entry_max_loop ?_
    rw [Around.under_plainId F.plain_max_loop _]
    show wpAny _ A.in1 (seqItems? (.ref S) >>= _) _ _ s
    refine wpAny_bind (wpAny_seqItems hS rfl ?_)
    show wpAny _ A.in1 (tryCatch (pyNext (.ref I)) _ >>= _) _ _ s
    refine wpAny_bind (wpAny_tryCatch (W.item i s _ _ hlt st fun v h' tk hp st' hk' => ?_))
    have hS' := hk' S _ hSw hS
    obtain ⟨tv, rfl⟩ := hP i v hp
    have up : ∀ f : Array Value → Array Value, ∀ b ∈ fp, ∀ o, h'.get? b = some o → (h'.update S (Obj.mapSeq f)).get? b = some o := fun f b hbf o e => (Heap.get?_update_other _ _ (fun h : S = b => hSf (by rw [h]; exact hbf))).trans e
    rcases hb with ⟨rfl, rfl⟩ | ⟨h0, tb, rfl⟩
    · show wpAny _ A.in1 (updateSeq S (fun _ => #[.int (kk 0) tv, .int (kk 0) tv]) >>= _) _ _ _
      refine wpAny_bind ?_
      refine wpAny_updateSeq hS' rfl ?_
      rw [hname]
      refine wpAny_pure ⟨plainId_quiet F.plain_max_loop _, ih 1 _ _ _ (by omega) hlt (W.frame _ _ _ st' (up _)) (Heap.get?_update_self _ hS' rfl) (.inr ⟨Nat.zero_lt_one, tv, rfl⟩) fun h'' tk'' tv'' hk'' => ?_⟩
      exact hR h'' tk'' tv'' fun b o hbw hbS e => hk'' b o hbw hbS ((Heap.get?_update_other _ _ (Ne.symm hbS)).trans (hk' b o hbw e))
    · have e1 : mxK d kk (i + 1) = if kk i > mxK d kk i then kk i else mxK d kk i := by
        rw [mxK, if_neg (by omega)]
      show wpAny _ A.in1 (tryCatch (holding [.int (kk i) tv, .int (kk i) tv] (richCompare .Gt (.int (kk i) tv) (.int (mxK d kk i) tb) >>= _)) _ >>= _) _ _ _
      refine wpAny_bind (wpAny_tryCatch (wpAny_holding (wpAny_bind (CmpOf.ints_gt (P := fun j v => ∃ t, v = Value.int (if j = 0 then mxK d kk i else kk i) t) (fun j => if j = 0 then mxK d kk i else kk i) (fun j v hv => hv) 1 0 _ _ _ _ _ ⟨tv, rfl⟩ ⟨tb, rfl⟩ ?_))))
      refine wpAny_bind (wpAny_holding (wpAny_truthy_bool ?_))
      refine wpAny_bind (wpAny_letGo (wpAny_pure ?_))
      have eb : decide ((if 1 = 0 then mxK d kk i else kk i) > (if 0 = 0 then mxK d kk i else kk i)) = decide (kk i > mxK d kk i) := rfl
      by_cases hgt : kk i > mxK d kk i
      · rw [if_pos hgt] at e1
        refine wpAny_ifT (decide_eq_true hgt) ?_
        refine wpAny_bind ?_
        refine wpAny_updateSeq hS' rfl (wpAny_bind (wpAny_letGo ?_))
        rw [hname]
        refine wpAny_pure ⟨plainId_quiet F.plain_max_loop _, ih (i + 1) _ _ _ (by omega) hlt (W.frame _ _ _ st' (up _)) (Heap.get?_update_self _ hS' rfl) (.inr ⟨Nat.succ_pos _, tv, by rw [e1]⟩) fun h'' tk'' tv'' hk'' => ?_⟩
        exact hR h'' tk'' tv'' fun b o hbw hbS e => hk'' b o hbw hbS ((Heap.get?_update_other _ _ (Ne.symm hbS)).trans (hk' b o hbw e))
      · rw [if_neg hgt] at e1
        refine wpAny_ifF (decide_eq_false hgt) ?_
        refine wpAny_bind (wpAny_letGo ?_)
        rw [hname]
        refine wpAny_pure ⟨plainId_quiet F.plain_max_loop _, ih (i + 1) _ _ _ (by omega) hlt st' hS' (.inr ⟨Nat.succ_pos _, tb, by rw [e1]⟩) fun h'' tk'' tv'' hk'' => ?_⟩
        exact hR h'' tk'' tv'' fun b o hbw hbS e => hk'' b o hbw hbS (hk' b o hbw e)
end
section
variable {prog : Program} {w : World} {A : Around} {E : Value → Shared → Prop} {s : Shared}
theorem call_maxd {p : Addr} {vs : Array Value} {kk : Nat → Int} {d : Int} {td : Tok} {Q : Value → Shared → Prop} (hh : A.handled = none) (ht : IsTup s.heap p vs) (hI : ∀ (i : Nat) (v : Value), vs[i]? = some v → ∃ tk, v = .int (kk i) tk)
    (h : ∀ h' tk tv, Kept s.heap h' → Q (.int (mxK d kk vs.size) tv) { s with heap := h', toks := tk }) : wpAny (model prog w) A (call (.builtin "max") [.ref p] [(Str.ofString "default", .int d td)]) Q E s := by
  have hname : (toString "max" ++ toString ".loop" : String) = "max.loop" := by decide
  have hlt : p < s.heap.objs.size := by obtain ⟨o, e, _⟩ := ht; exact Heap.lt_size e
  refine wpAny_call (codeAny_call_builtin F.plain_max F.entry_max ?_)
  have body : wpAny (model prog w) A.in1 (Builtin.«max» ⟨[.ref p], [(Str.ofString "default", .int d td)]⟩) (fun fin s' => match fin with
      | .done f => (match (Except.ok f : Result) with | .ok (.ret v) => Q v s' | .ok _ => False | .error e => E e s')
      | .again c' => c'.quiet = true ∧ codeAny (model prog w) A c' (fun r s' => match r with | .ok (.ret v) => Q v s' | .ok _ => False | .error e => E e s') s') E s := by
    show wpAny _ A.in1 (Builtin.Builtins.bindParams "max" ["key", "default"] 0 ⟨[], [(Str.ofString "default", .int d td)]⟩ >>= _) _ _ s
    refine wpAny_bind (wpAny_of_eq (a := [none, some (.int d td)]) (by first | rfl | kernel_rfl) ?_)
    refine wpAny_bind (wpAny_pure ?_)
    refine wpAny_bind (wpAny_pyIter_tuple (show s.heap.IsTuple p vs from ht) ?_)
    refine wpAny_bind (wpAny_newObj_type ?_)
    rw [hname]
    have sz1 : (s.heap.push { cls := .type "tuple_iterator", data := .fields #[.ref p, .int 0 0] }).objs.size = s.heap.objs.size + 1 := Heap.size_push _ _
    refine wpAny_pure ⟨plainId_quiet F.plain_max_loop _, maxd_loop (Walks.tuple (show A.in1.handled = none from hh) s.heap.objs.size p (Nat.ne_of_lt hlt) vs) (fun i v hv => hI i v hv) _ ?_ d td (vs.size - 0) 0 _ #[] _ (by omega) (Nat.zero_le _) ⟨⟨_, Heap.get?_push_of_some _ (Heap.get?_push_size _ rfl), rfl, rfl⟩, IsTup.keeps ht fun b o e => Heap.get?_push_of_some _ (Heap.get?_push_of_some _ e)⟩ (Heap.get?_push_size _ rfl) (.inl ⟨rfl, rfl⟩) fun h' tk tv hk => ?_⟩
    · rw [sz1]
      simp only [List.mem_cons, List.not_mem_nil, or_false, not_or]
      exact ⟨Nat.ne_of_gt (Nat.lt_succ_self _), Nat.ne_of_gt (Nat.lt_succ_of_lt hlt)⟩
    · refine h h' tk tv fun b o e => hk b o ?_ ?_ (Heap.get?_push_of_some _ (Heap.get?_push_of_some _ e))
      · exact fun z => absurd (Heap.lt_size e) (by rw [List.mem_singleton.mp z]; exact Nat.lt_irrefl _)
      · rw [sz1]
        exact Nat.ne_of_lt (Nat.lt_succ_of_lt (Heap.lt_size e))
  simp only [checkBuiltinCall, F.kind_max]
  cases hsig : Manifest.signature? "max" with
  | none => exact wpAny_pure body
  | some sig =>
    have ha' : Bind.checkArgs "max" sig ⟨[.ref p], [(Str.ofString "default", .int d td)]⟩ = pure () := by simpa only [argsOk, hsig] using args_maxd (.ref p) (.int d td)
    simp only [ha']
    exact wpAny_pure body
end
def rMaxd (K : PySem.W.Frag) : List V → Hp → VK → Prop := fun xs H Q => ∃ (p : Addr) (ns : List Int), xs = [.ref p] ∧ SqT K H p (ns.map V.int) ∧ Q (.int (mxK 0 (fun i => ns.getD i 0) ns.length)) H
section
variable {X : Cx}
theorem pe_maxd {p kp pos pc : Pos} {j : Nat} {e : Expr} {t : TA} (hc : X.calm = true) (hm : X.mg "max" = none) (ha : PA X [e] t) (hg : Gl X "max" := by rfl)
    (he : backTo pos (starEach [e] X.env) = (false, eval e X.env) :: backTo pos (starEach [] X.env) := by rfl) (hpl : (backTo pos (starEach [e] X.env)).any (·.1) = false := by rfl) :
    PE X (.Call (.Name "max" p) [e] [⟨some "default", .Constant (.int 0) j pc, kp⟩] pos) (tCB (rMaxd X.K) t) := by
  intro pins s σ H Q I h
  refine wpAny_Call_Name_kw (ld_blt I hg hm Wv.bt_max ?_)
  refine callWith_kw (thn (ha pos pins s σ H _ I h) fun us s1 ⟨vs, H1, I1, r1, q1⟩ => kws_cons (wpAny_Constant_int (kws_nil ?_))) he hpl
  obtain ⟨p, ns, rfl, hq, q⟩ := q1
  obtain ⟨u, rfl, rx⟩ := vals1 r1
  cases (show u = Value.ref p from rx)
  obtain ⟨its, rv, pl, hz⟩ := I1.tuple hq
  have hl := rv.length
  rw [List.length_map] at hl
  have sz : its.toArray.size = ns.length := by simp; omega
  refine call_maxd (kk := fun i => ns.getD i 0) (I.ok.hd hc) pl (vals_intsA rv) fun h' tk tv kept => ?_
  rw [sz]
  exact ⟨.int _, H1, I1.kept (t' := tk) (h' := h') kept, ⟨_, rfl⟩, q⟩
end
end L2
namespace DL
open PySem PySem.Spec L2
section
variable {X : Cx} {K : PySem.W.Frag} {mg : Str → Option Value} {ww : World} {E : XK} {ow : List Bool}
def maxd0 : List D → R D
  | [.tup l] => ofInts (fun ns => .ok (.int (mxK 0 (fun i => ns.getD i 0) ns.length))) l
  | _ => .bad
theorem o_maxd0 : OpN K mg ww .d (rMaxd K) maxd0 := by
  intro E os H xs ds Q dm hp o
  unfold maxd0 at o
  split at o
  · rename_i l
    unfold ofInts at o
    split at o
    · rename_i ns hb
      obtain ⟨x, rfl, hx⟩ := pair1 hp
      obtain ⟨p, ys, rfl, h1, _, h2⟩ := hx.tup
      exact ⟨p, ns, rfl, by rw [← ints_is hb h2]; exact h1, o _ H (Same.refl H) rInt⟩
    · exact o.elim
  · exact o.elim
theorem e_maxd {p kp pos pc : Pos} {j : Nat} {e : Expr} {ms : Ev → R (List D)} (hm : X.mg "max" = none) (ha : PA X [e] (tA K mg ww .b E ow ms)) (hc : X.calm = true := by rfl) (hK : X.K = K := by rfl) (hg : Gl X "max" := by rfl)
    (he : backTo pos (starEach [e] X.env) = (false, eval e X.env) :: backTo pos (starEach [] X.env) := by rfl) (hpl : (backTo pos (starEach [e] X.env)).any (·.1) = false := by rfl) :
    PE X (.Call (.Name "max" p) [e] [⟨some "default", .Constant (.int 0) j pc, kp⟩] pos) (tE K mg ww .d E ow (mFn maxd0 ms)) := by
  subst hK
  exact (pe_maxd hc hm ha hg he hpl).mono fun σ H Q h => fn_go o_maxd0 h
end
end DL
namespace Wv
open PySem L2
def top (i : Nat) : Stmt := PySem.Challenge.pw_weavehall_k04_whole_least_looms.main.body.getD i (.Pass ⟨0, 0, 0, 0⟩)
abbrev s_is_number_below : Stmt := top 5
abbrev s_are_numbers_below : Stmt := top 6
abbrev s_is_tuple_in_bounds : Stmt := top 7
abbrev s_is_row_of_numbers_below : Stmt := top 8
abbrev s_column : Stmt := top 10
abbrev s_columns : Stmt := top 11
abbrev s_checked_loom : Stmt := top 13
abbrev s_is_loom : Stmt := top 14
abbrev s_is_tie : Stmt := top 15
abbrev s_least_loom : Stmt := top 16
abbrev s_numbers_by_first_standing : Stmt := top 17
abbrev s_lifted_shafts : Stmt := top 18
abbrev s__law_cell : Stmt := top 20
abbrev s__law_mix : Stmt := top 21
abbrev s__law_size : Stmt := top 22
abbrev s__law_cloth : Stmt := top 23
abbrev s__law_loom : Stmt := top 24
abbrev s__law_woven : Stmt := top 25
abbrev s__law_firsts : Stmt := top 26
abbrev s_law : Stmt := top 27
abbrev scp_114_26 : Scope := { kind := PySem.ScopeKind.function, names := [ (PySem.Str.ofString ".0", PySem.NameKind.local), (PySem.Str.ofString "_law_k", PySem.NameKind.cell), (PySem.Str.ofString "tuple", PySem.NameKind.globalImplicit), (PySem.Str.ofString "_law_cloth_here", PySem.NameKind.free)], isGenerator := false, isCoroutine := false, more := [] : PySem.Scope }
end Wv
namespace DL
open PySem PySem.Spec PyProof.Rows L2 Wv
structure Pr (K : PySem.W.Frag) (mg : Str → Option Value) (w : World) (aBadLoom : Addr) : Prop where
  b_all : mg "all" = none
  b_bool : mg "bool" = none
  b_int : mg "int" = none
  b_isinstance : mg "isinstance" = none
  b_len : mg "len" = none
  b_list : mg "list" = none
  b_max : mg "max" = none
  b_range : mg "range" = none
  b_set : mg "set" = none
  b_sorted : mg "sorted" = none
  b_tuple : mg "tuple" = none
  b_zip : mg "zip" = none
  c_MOST : ∃ t, mg "MOST" = some (Value.int 16 t)
  k_BadLoom : mg "BadLoom" = some (.ref aBadLoom)
  x_BadLoom : ExcCls K aBadLoom
  d_is_number_below : ∃ f fd, DefOk K mg "is_number_below" s_is_number_below ["thing", "bound"] f fd
  d_are_numbers_below : ∃ f fd, DefOk K mg "are_numbers_below" s_are_numbers_below ["things", "bound"] f fd
  d_is_tuple_in_bounds : ∃ f fd, DefOk K mg "is_tuple_in_bounds" s_is_tuple_in_bounds ["thing"] f fd
  d_is_row_of_numbers_below : ∃ f fd, DefOk K mg "is_row_of_numbers_below" s_is_row_of_numbers_below ["thing", "bound"] f fd
  d_column : ∃ f fd, DefOk K mg "column" s_column ["cloth", "number"] f fd
  d_columns : ∃ f fd, DefOk K mg "columns" s_columns ["cloth"] f fd
  d_is_tie : ∃ f fd, DefOk K mg "is_tie" s_is_tie ["thing"] f fd
  d_is_loom : ∃ f fd, DefOk K mg "is_loom" s_is_loom ["thing"] f fd
  d_checked_loom : ∃ f fd, DefOk K mg "checked_loom" s_checked_loom ["loom"] f fd
  d_numbers_by_first_standing : ∃ f fd, DefOk K mg "numbers_by_first_standing" s_numbers_by_first_standing ["lines"] f fd
  d_lifted_shafts : ∃ f fd, DefOk K mg "lifted_shafts" s_lifted_shafts ["threading", "row"] f fd
  d_least_loom : ∃ f fd, DefOk K mg "least_loom" s_least_loom ["cloth"] f fd
  d__law_cell : ∃ f fd, DefOk K mg "_law_cell" s__law_cell ["_law_script", "_law_k"] f fd
  d__law_mix : ∃ f fd, DefOk K mg "_law_mix" s__law_mix ["_law_cell_here", "_law_prime", "_law_many"] f fd
  d__law_size : ∃ f fd, DefOk K mg "_law_size" s__law_size ["_law_cell_here"] f fd
  d__law_cloth : ∃ f fd, DefOk K mg "_law_cloth" s__law_cloth ["_law_script", "_law_at"] f fd
  d__law_loom : ∃ f fd, DefOk K mg "_law_loom" s__law_loom ["_law_script", "_law_at"] f fd
  d__law_woven : ∃ f fd, DefOk K mg "_law_woven" s__law_woven ["_law_loom_here"] f fd
  d__law_firsts : ∃ f fd, DefOk K mg "_law_firsts" s__law_firsts ["_law_row"] f fd
section
variable {P : Program} {w : World} {K : PySem.W.Frag} {mg : Str → Option Value} {base : Heap} {aBadLoom : Addr}
noncomputable def mb_is_number_below : Ev → R Fl := (sRet (mAnd (mInst isIntD (mV 0)) (mAnd (mNot (mInst isBoolD (mV 0))) (mChain (mC (.int 0)) (mV 0) (mV 1) leD ltD))))
noncomputable def m_is_number_below : List D → R D := runB 2 mb_is_number_below
theorem sc_is_number_below : FnScope ["thing", "bound"] ["thing", "bound"] (defScope s_is_number_below) := ⟨rfl, rfl, rfl, by decide +kernel, rfl, by decide +kernel, by decide +kernel⟩
set_option maxHeartbeats 4000000 in
theorem fn_is_number_below (p : Pr K mg w aBadLoom) {f : Addr} {fd : FuncData} (D : DefOk K mg "is_number_below" s_is_number_below ["thing", "bound"] f fd) : FnOk P w K mg base (CX1 P w) 1 f fd ["thing", "bound"] (spD K mg w 2 m_is_number_below) := by
  refine fnD (ow := [false, false]) (k := 0) D.F sc_is_number_below rfl fun cdv A outer s H E hr => ?_
  have hu := hr.units
  exact (ss_one (s_ret (e_and (e_inst kit_int p.b_isinstance p.b_int Wv.bt_int (bd (e_var 0))) (e_and (e_not (e_inst kit_bool p.b_isinstance p.b_bool Wv.bt_bool (bd (e_var 0)))) (e_one (e_chain op_le o_le op_lt o_lt (bd e_int) (bd (e_var 0)) (bd (e_var 1))))))))
noncomputable def mb_are_numbers_below : Ev → R Fl := (sRet (mFn allD (mCons (mLc (mItems (mV 0)) [none, some 1] (gN 0) mYes (mFn m_is_number_below (mCons (mV 0) (mCons (mV 1) mNil)))) mNil)))
noncomputable def m_are_numbers_below : List D → R D := runB 2 mb_are_numbers_below
theorem sc_are_numbers_below : FnScope ["things", "bound"] ["things", "bound"] (defScope s_are_numbers_below) := ⟨rfl, rfl, rfl, by decide +kernel, rfl, by decide +kernel, by decide +kernel⟩
set_option maxHeartbeats 4000000 in
theorem fn_are_numbers_below (p : Pr K mg w aBadLoom) {f : Addr} {fd : FuncData} (D : DefOk K mg "are_numbers_below" s_are_numbers_below ["things", "bound"] f fd) : FnOk P w K mg base (CX1 P w) 2 f fd ["things", "bound"] (spD K mg w 2 m_are_numbers_below) := by
  obtain ⟨f_is_number_below, fd_is_number_below, D_is_number_below⟩ := p.d_is_number_below
  have G_is_number_below := fn_is_number_below (P := P) (w := w) (base := base) p D_is_number_below
  refine fnD (ow := [false, false]) (k := 1) D.F sc_are_numbers_below rfl fun cdv A outer s H E hr => ?_
  have hu := hr.units
  exact (ss_one (s_ret (e_callB callAll o_all p.b_all Wv.bt_all (a_b (bf (e_lc (N' := ["thing", "bound"]) (src := [none, some 1]) (LcOk.of ["things", "bound"] (defScope s_are_numbers_below) rfl rfl (by decide +kernel)) (i_seq (e_var 0)) (fun _ _ _ _ => (g_name (i := 0) (show (["thing", "bound"] : List Str).Nodup by decide +kernel))) (fun _ _ _ _ => ptl_yes) (fun _ _ _ _ => (e_call G_is_number_below (hr.mono (by decide)) D_is_number_below.m D_is_number_below.F.kp D_is_number_below.b passE0 (a_d (e_var 0) (a_d (e_var 1) a_nil)) (n_cons (n_cons (n_nil))))) sub_N src_ok)) a_nil))))
noncomputable def mb_is_tuple_in_bounds : Ev → R Fl := (sRet (mAnd (mInst isTupD (mV 0)) (mChain (mC (.int 1)) (mFn lenD (mCons (mV 0) mNil)) (mC (.int 16)) leD leD)))
noncomputable def m_is_tuple_in_bounds : List D → R D := runB 1 mb_is_tuple_in_bounds
theorem sc_is_tuple_in_bounds : FnScope ["thing"] ["thing"] (defScope s_is_tuple_in_bounds) := ⟨rfl, rfl, rfl, by decide +kernel, rfl, by decide +kernel, by decide +kernel⟩
set_option maxHeartbeats 4000000 in
theorem fn_is_tuple_in_bounds (p : Pr K mg w aBadLoom) {f : Addr} {fd : FuncData} (D : DefOk K mg "is_tuple_in_bounds" s_is_tuple_in_bounds ["thing"] f fd) : FnOk P w K mg base (CX1 P w) 1 f fd ["thing"] (spD K mg w 1 m_is_tuple_in_bounds) := by
  obtain ⟨t_MOST, h_MOST⟩ := p.c_MOST
  refine fnD (ow := [false]) (k := 0) D.F sc_is_tuple_in_bounds rfl fun cdv A outer s H E hr => ?_
  have hu := hr.units
  exact (ss_one (s_ret (e_and (e_inst kit_tup p.b_isinstance p.b_tuple Wv.bt_tuple (bd (e_var 0))) (e_one (e_chain op_le o_le op_le o_le (bd e_int) (bd (e_callB callLen o_len p.b_len Wv.bt_len (a_b (bd (e_var 0)) a_nil))) (bd (e_gint h_MOST)))))))
noncomputable def mb_is_row_of_numbers_below : Ev → R Fl := (sRet (mAnd (mFn m_is_tuple_in_bounds (mCons (mV 0) mNil)) (mFn m_are_numbers_below (mCons (mV 0) (mCons (mV 1) mNil)))))
noncomputable def m_is_row_of_numbers_below : List D → R D := runB 2 mb_is_row_of_numbers_below
theorem sc_is_row_of_numbers_below : FnScope ["thing", "bound"] ["thing", "bound"] (defScope s_is_row_of_numbers_below) := ⟨rfl, rfl, rfl, by decide +kernel, rfl, by decide +kernel, by decide +kernel⟩
set_option maxHeartbeats 4000000 in
theorem fn_is_row_of_numbers_below (p : Pr K mg w aBadLoom) {f : Addr} {fd : FuncData} (D : DefOk K mg "is_row_of_numbers_below" s_is_row_of_numbers_below ["thing", "bound"] f fd) : FnOk P w K mg base (CX1 P w) 3 f fd ["thing", "bound"] (spD K mg w 2 m_is_row_of_numbers_below) := by
  obtain ⟨f_is_tuple_in_bounds, fd_is_tuple_in_bounds, D_is_tuple_in_bounds⟩ := p.d_is_tuple_in_bounds
  have G_is_tuple_in_bounds := fn_is_tuple_in_bounds (P := P) (w := w) (base := base) p D_is_tuple_in_bounds
  obtain ⟨f_are_numbers_below, fd_are_numbers_below, D_are_numbers_below⟩ := p.d_are_numbers_below
  have G_are_numbers_below := fn_are_numbers_below (P := P) (w := w) (base := base) p D_are_numbers_below
  refine fnD (ow := [false, false]) (k := 2) D.F sc_is_row_of_numbers_below rfl fun cdv A outer s H E hr => ?_
  have hu := hr.units
  exact (ss_one (s_ret (e_and (e_call G_is_tuple_in_bounds (hr.mono (by decide)) D_is_tuple_in_bounds.m D_is_tuple_in_bounds.F.kp D_is_tuple_in_bounds.b (pass1 fun _ _ h => h) (a_d (e_var 0) a_nil) (n_cons (n_nil))) (e_one (e_call G_are_numbers_below (hr.mono (by decide)) D_are_numbers_below.m D_are_numbers_below.F.kp D_are_numbers_below.b (pass1 fun _ _ h => h) (a_d (e_var 0) (a_d (e_var 1) a_nil)) (n_cons (n_cons (n_nil))))))))
noncomputable def mb_column : Ev → R Fl := (sRet (mFn tupleD (mCons (mLc (mItems (mV 0)) [none, some 1] (gN 0) mYes (m2 (mV 0) (mV 1) ixD)) mNil)))
noncomputable def m_column : List D → R D := runB 2 mb_column
theorem sc_column : FnScope ["cloth", "number"] ["cloth", "number"] (defScope s_column) := ⟨rfl, rfl, rfl, by decide +kernel, rfl, by decide +kernel, by decide +kernel⟩
set_option maxHeartbeats 4000000 in
theorem fn_column (p : Pr K mg w aBadLoom) {f : Addr} {fd : FuncData} (D : DefOk K mg "column" s_column ["cloth", "number"] f fd) : FnOk P w K mg base (CX1 P w) 1 f fd ["cloth", "number"] (spD K mg w 2 m_column) := by
  refine fnD (ow := [false, false]) (k := 0) D.F sc_column rfl fun cdv A outer s H E hr => ?_
  have hu := hr.units
  exact (ss_one (s_ret (e_callTy callTuple o_tuple p.b_tuple Wv.bt_tuple (a_b (bf (e_lc (N' := ["row", "number"]) (src := [none, some 1]) (LcOk.of ["cloth", "number"] (defScope s_column) rfl rfl (by decide +kernel)) (i_seq (e_var 0)) (fun _ _ _ _ => (g_name (i := 0) (show (["row", "number"] : List Str).Nodup by decide +kernel))) (fun _ _ _ _ => ptl_yes) (fun _ _ _ _ => (e_ix ixAll o_ix (bd (e_var 0)) (bd (e_var 1)))) sub_N src_ok)) a_nil))))
noncomputable def mb_columns : Ev → R Fl := (sRet (mLc (mIt (mCons (mFn lenD (mCons (m2 (mV 0) (mC (.int 0)) ixD) mNil)) mNil) ran1) [none, some 0] (gN 0) mYes (mFn m_column (mCons (mV 1) (mCons (mV 0) mNil)))))
noncomputable def m_columns : List D → R D := runB 1 mb_columns
theorem sc_columns : FnScope ["cloth"] ["cloth"] (defScope s_columns) := ⟨rfl, rfl, rfl, by decide +kernel, rfl, by decide +kernel, by decide +kernel⟩
set_option maxHeartbeats 4000000 in
theorem fn_columns (p : Pr K mg w aBadLoom) {f : Addr} {fd : FuncData} (D : DefOk K mg "columns" s_columns ["cloth"] f fd) : FnOk P w K mg base (CX1 P w) 2 f fd ["cloth"] (spD K mg w 1 m_columns) := by
  obtain ⟨f_column, fd_column, D_column⟩ := p.d_column
  have G_column := fn_column (P := P) (w := w) (base := base) p D_column
  refine fnD (ow := [false]) (k := 1) D.F sc_columns rfl fun cdv A outer s H E hr => ?_
  have hu := hr.units
  exact (ss_one (s_ret (f2d (e_lc (N' := ["number", "cloth"]) (src := [none, some 0]) (LcOk.of ["cloth"] (defScope s_columns) rfl rfl (by decide +kernel)) (i_ran1 p.b_range (a_b (bd (e_callB callLen o_len p.b_len Wv.bt_len (a_b (bd (e_ix ixAll o_ix (bd (e_var 0)) (bd e_int))) a_nil))) a_nil)) (fun _ _ _ _ => (g_name (i := 0) (show (["number", "cloth"] : List Str).Nodup by decide +kernel))) (fun _ _ _ _ => ptl_yes) (fun _ _ _ _ => (e_call G_column (hr.mono (by decide)) D_column.m D_column.F.kp D_column.b passE0 (a_d (e_var 1) (a_d (e_var 0) a_nil)) (n_cons (n_cons (n_nil))))) sub_N src_ok))))
noncomputable def mb_is_tie : Ev → R Fl := (sSeq (sIf (mTor (mTn (mTru (mInst isTupD (mV 0)))) (mTn (mTru (mFn m_are_numbers_below (mCons (mV 0) (mCons (mC (.int 16)) mNil))))))
  (sRet (mC (.bl false)))
  sNil)
  (sRet (mFn allD (mCons (mLc (mIt (mCons (mV 0) (mCons (mSl (mV 0) (mPart (mC (.int 1))) mNoP) mNil)) zipD) [none, none] (gT2 0 1) mYes (m2 (mV 0) (mV 1) ltD)) mNil))))
noncomputable def m_is_tie : List D → R D := runB 1 mb_is_tie
theorem sc_is_tie : FnScope ["thing"] ["thing"] (defScope s_is_tie) := ⟨rfl, rfl, rfl, by decide +kernel, rfl, by decide +kernel, by decide +kernel⟩
set_option maxHeartbeats 4000000 in
theorem fn_is_tie (p : Pr K mg w aBadLoom) {f : Addr} {fd : FuncData} (D : DefOk K mg "is_tie" s_is_tie ["thing"] f fd) : FnOk P w K mg base (CX1 P w) 3 f fd ["thing"] (spD K mg w 1 m_is_tie) := by
  obtain ⟨f_are_numbers_below, fd_are_numbers_below, D_are_numbers_below⟩ := p.d_are_numbers_below
  have G_are_numbers_below := fn_are_numbers_below (P := P) (w := w) (base := base) p D_are_numbers_below
  obtain ⟨t_MOST, h_MOST⟩ := p.c_MOST
  refine fnD (ow := [false]) (k := 2) D.F sc_is_tie rfl fun cdv A outer s H E hr => ?_
  have hu := hr.units
  exact (ss_cons (s_if (PW.pt (w_or (t_not (t_tru (bd (e_inst kit_tup p.b_isinstance p.b_tuple Wv.bt_tuple (bd (e_var 0)))))) (w_or1 (t_not (t_tru (bd (e_call G_are_numbers_below (hr.mono (by decide)) D_are_numbers_below.m D_are_numbers_below.F.kp D_are_numbers_below.b (pass1 fun _ _ h => h) (a_d (e_var 0) (a_d (e_gint h_MOST) a_nil)) (n_cons (n_cons (n_nil))))))))))
    (ss_one (s_ret e_bl))
    ss_nil)
    (ss_one (s_ret (e_callB callAll o_all p.b_all Wv.bt_all (a_b (bf (e_lc (N' := ["one", "after"]) (src := [none, none]) (LcOk.of ["thing"] (defScope s_is_tie) rfl rfl (by decide +kernel)) (i_zip p.b_zip (a_d (e_var 0) (a_d (e_sl (bd (e_var 0)) (p_some e_int) p_none) a_nil))) (fun _ _ _ _ => (g_tup2 (i := 0) (j := 1) rfl (show (["one", "after"] : List Str).Nodup by decide +kernel))) (fun _ _ _ _ => ptl_yes) (fun _ _ _ _ => (e_cmp op_lt o_lt (bd (e_var 0)) (bd (e_var 1)) (nomark _))) sub_T2 src_ok)) a_nil)))))
noncomputable def mb_is_loom : Ev → R Fl := (sSeq (sIf (mTor (mTn (mTru (mInst isTupD (mV 0)))) (mTst (m2 (mFn lenD (mCons (mV 0) mNil)) (mC (.int 3)) neD)))
  (sRet (mC (.bl false)))
  sNil)
  (sSeq (sSet 1 (m2 (mV 0) (mC (.int 0)) ixD))
  (sSeq (sSet 2 (m2 (mV 0) (mC (.int 1)) ixD))
  (sSeq (sSet 3 (m2 (mV 0) (mC (.int 2)) ixD))
  (sSeq (sIf (mTor (mTn (mTru (mFn m_is_row_of_numbers_below (mCons (mV 1) (mCons (mC (.int 16)) mNil))))) (mTn (mTru (mFn m_is_tuple_in_bounds (mCons (mV 2) mNil)))))
  (sRet (mC (.bl false)))
  sNil)
  (sRet (mAnd (mFn allD (mCons (mLc (mItems (mV 2)) [none] (gN 0) mYes (mFn m_is_tie (mCons (mV 0) mNil))) mNil)) (mFn m_is_row_of_numbers_below (mCons (mV 3) (mCons (mFn lenD (mCons (mV 2) mNil)) mNil))))))))))
noncomputable def m_is_loom : List D → R D := runB 4 mb_is_loom
theorem sc_is_loom : FnScope ["thing", "threading", "ties", "treading"] ["thing"] (defScope s_is_loom) := ⟨rfl, rfl, rfl, by decide +kernel, rfl, by decide +kernel, by decide +kernel⟩
set_option maxHeartbeats 4000000 in
theorem fn_is_loom (p : Pr K mg w aBadLoom) {f : Addr} {fd : FuncData} (D : DefOk K mg "is_loom" s_is_loom ["thing"] f fd) : FnOk P w K mg base (CX1 P w) 4 f fd ["thing"] (spD K mg w 1 m_is_loom) := by
  obtain ⟨f_is_row_of_numbers_below, fd_is_row_of_numbers_below, D_is_row_of_numbers_below⟩ := p.d_is_row_of_numbers_below
  have G_is_row_of_numbers_below := fn_is_row_of_numbers_below (P := P) (w := w) (base := base) p D_is_row_of_numbers_below
  obtain ⟨f_is_tuple_in_bounds, fd_is_tuple_in_bounds, D_is_tuple_in_bounds⟩ := p.d_is_tuple_in_bounds
  have G_is_tuple_in_bounds := fn_is_tuple_in_bounds (P := P) (w := w) (base := base) p D_is_tuple_in_bounds
  obtain ⟨f_is_tie, fd_is_tie, D_is_tie⟩ := p.d_is_tie
  have G_is_tie := fn_is_tie (P := P) (w := w) (base := base) p D_is_tie
  obtain ⟨t_MOST, h_MOST⟩ := p.c_MOST
  refine fnD (ow := [false, false, false, false]) (k := 3) D.F sc_is_loom rfl fun cdv A outer s H E hr => ?_
  have hu := hr.units
  exact (ss_cons (s_if (PW.pt (w_or (t_not (t_tru (bd (e_inst kit_tup p.b_isinstance p.b_tuple Wv.bt_tuple (bd (e_var 0)))))) (w_or1 (t_cmp (opNe hu) o_ne (bd (e_callB callLen o_len p.b_len Wv.bt_len (a_b (bd (e_var 0)) a_nil))) (bd e_int) (nomark _)))))
    (ss_one (s_ret e_bl))
    ss_nil)
    (ss_cons (s_set (i := 1) sc_is_loom.nd (e_ix ixAll o_ix (bd (e_var 0)) (bd e_int)))
    (ss_cons (s_set (i := 2) sc_is_loom.nd (e_ix ixAll o_ix (bd (e_var 0)) (bd e_int)))
    (ss_cons (s_set (i := 3) sc_is_loom.nd (e_ix ixAll o_ix (bd (e_var 0)) (bd e_int)))
    (ss_cons (s_if (PW.pt (w_or (t_not (t_tru (bd (e_call G_is_row_of_numbers_below (hr.mono (by decide)) D_is_row_of_numbers_below.m D_is_row_of_numbers_below.F.kp D_is_row_of_numbers_below.b (pass1 fun _ _ h => h) (a_d (e_var 1) (a_d (e_gint h_MOST) a_nil)) (n_cons (n_cons (n_nil))))))) (w_or1 (t_not (t_tru (bd (e_call G_is_tuple_in_bounds (hr.mono (by decide)) D_is_tuple_in_bounds.m D_is_tuple_in_bounds.F.kp D_is_tuple_in_bounds.b (pass1 fun _ _ h => h) (a_d (e_var 2) a_nil) (n_cons (n_nil)))))))))
    (ss_one (s_ret e_bl))
    ss_nil)
    (ss_one (s_ret (e_and (e_callB callAll o_all p.b_all Wv.bt_all (a_b (bf (e_lc (N' := ["tie"]) (src := [none]) (LcOk.of ["thing", "threading", "ties", "treading"] (defScope s_is_loom) rfl rfl (by decide +kernel)) (i_seq (e_var 2)) (fun _ _ _ _ => (g_name (i := 0) (show (["tie"] : List Str).Nodup by decide +kernel))) (fun _ _ _ _ => ptl_yes) (fun _ _ _ _ => (e_call G_is_tie (hr.mono (by decide)) D_is_tie.m D_is_tie.F.kp D_is_tie.b passE0 (a_d (e_var 0) a_nil) (n_cons (n_nil)))) sub_N src_ok)) a_nil)) (e_one (e_call G_is_row_of_numbers_below (hr.mono (by decide)) D_is_row_of_numbers_below.m D_is_row_of_numbers_below.F.kp D_is_row_of_numbers_below.b (pass1 fun _ _ h => h) (a_d (e_var 3) (a_d (e_callB callLen o_len p.b_len Wv.bt_len (a_b (bd (e_var 2)) a_nil)) a_nil)) (n_cons (n_cons (n_nil)))))))))))))
noncomputable def mb_checked_loom : Ev → R Fl := (sSeq (sIf (mTn (mTru (mFn m_is_loom (mCons (mV 0) mNil))))
  (sRse "BadLoom" (mCons (mC (.str "a loom is a tuple (threading, ties, treading) of shafts, of shafts by treadle, of treadles")) mNil))
  sNil)
  (sRet (mV 0)))
noncomputable def m_checked_loom : List D → R D := runB 1 mb_checked_loom
theorem sc_checked_loom : FnScope ["loom"] ["loom"] (defScope s_checked_loom) := ⟨rfl, rfl, rfl, by decide +kernel, rfl, by decide +kernel, by decide +kernel⟩
set_option maxHeartbeats 4000000 in
theorem fn_checked_loom (p : Pr K mg w aBadLoom) {f : Addr} {fd : FuncData} (D : DefOk K mg "checked_loom" s_checked_loom ["loom"] f fd) : FnOk P w K mg base (CX1 P w) 5 f fd ["loom"] (spD K mg w 1 m_checked_loom) := by
  obtain ⟨f_is_loom, fd_is_loom, D_is_loom⟩ := p.d_is_loom
  have G_is_loom := fn_is_loom (P := P) (w := w) (base := base) p D_is_loom
  refine fnD (ow := [false]) (k := 4) D.F sc_checked_loom rfl fun cdv A outer s H E hr => ?_
  have hu := hr.units
  exact (ss_cons (s_if (t_not (t_tru (bd (e_call G_is_loom (hr.mono (by decide)) D_is_loom.m D_is_loom.F.kp D_is_loom.b (pass1 fun _ _ h => h) (a_d (e_var 0) a_nil) (n_cons (n_nil))))))
    (ss_one (s_raise p.x_BadLoom p.k_BadLoom p.k_BadLoom (a_d e_str a_nil) raise_wish))
    ss_nil)
    (ss_one (s_ret (e_var 0))))
noncomputable def mb_numbers_by_first_standing : Ev → R Fl := (sSeq (sSet 1 (mC (.dct [] [])))
  (sSeq (sFor (mItems (mV 0)) (gN 2)
  (sIf (mTst (m2 (mV 2) (mV 1) (inK true)))
  (sPut 1 (mV 2) (mFn lenK (mCons (mV 1) mNil)))
  sNil))
  (sRet (mV 1))))
noncomputable def m_numbers_by_first_standing : List D → R D := runB 3 mb_numbers_by_first_standing
theorem sc_numbers_by_first_standing : FnScope ["lines", "numbers", "line"] ["lines"] (defScope s_numbers_by_first_standing) := ⟨rfl, rfl, rfl, by decide +kernel, rfl, by decide +kernel, by decide +kernel⟩
set_option maxHeartbeats 4000000 in
theorem fn_numbers_by_first_standing (p : Pr K mg w aBadLoom) {f : Addr} {fd : FuncData} (D : DefOk K mg "numbers_by_first_standing" s_numbers_by_first_standing ["lines"] f fd) : FnOk P w K mg base (CX1 P w) 1 f fd ["lines"] (spD K mg w 1 m_numbers_by_first_standing) := by
  refine fnD (ow := [false, true, false]) (k := 0) D.F sc_numbers_by_first_standing rfl fun cdv A outer s H E hr => ?_
  have hu := hr.units
  exact (ss_cons (s_setF (i := 1) sc_numbers_by_first_standing.nd e_dct0)
    (ss_cons (s_for PassesOwn.leaving (i_seq (e_var 0)) (g_name (i := 2) sc_numbers_by_first_standing.nd)
    (ss_one (s_if (t_cmp (opNotInX hu) o_inK (bd (e_var 2)) (b_var 1) (by with_unfolding_all rfl))
    (ss_one (s_put (i := 1) hu (e_callB callLenX o_lenK p.b_len Wv.bt_len (a_b (b_var 1) a_nil)) (e_var 2)))
    ss_nil)))
    (ss_one (s_retV 1))))
noncomputable def mb_lifted_shafts : Ev → R Fl := (sRet (mFn tupleD (mCons (mFn sortedSetI (mCons (mLc (mIt (mCons (mV 0) (mCons (mV 1) mNil)) zipD) [none, none] (gT2 0 1) (mTst (m2 (mV 1) (mC (.int 1)) eqD)) (mV 0)) mNil)) mNil)))
noncomputable def m_lifted_shafts : List D → R D := runB 2 mb_lifted_shafts
theorem sc_lifted_shafts : FnScope ["threading", "row"] ["threading", "row"] (defScope s_lifted_shafts) := ⟨rfl, rfl, rfl, by decide +kernel, rfl, by decide +kernel, by decide +kernel⟩
set_option maxHeartbeats 4000000 in
theorem fn_lifted_shafts (p : Pr K mg w aBadLoom) {f : Addr} {fd : FuncData} (D : DefOk K mg "lifted_shafts" s_lifted_shafts ["threading", "row"] f fd) : FnOk P w K mg base (CX1 P w) 1 f fd ["threading", "row"] (spD K mg w 2 m_lifted_shafts) := by
  refine fnD (ow := [false, false]) (k := 0) D.F sc_lifted_shafts rfl fun cdv A outer s H E hr => ?_
  have hu := hr.units
  exact (ss_one (s_ret (e_callTy callTuple o_tuple p.b_tuple Wv.bt_tuple (a_b (bf (e_sortedSetI p.b_sorted p.b_set (a_b (bf (e_lc (N' := ["shaft", "bit"]) (src := [none, none]) (LcOk.of ["threading", "row"] (defScope s_lifted_shafts) rfl rfl (by decide +kernel)) (i_zip p.b_zip (a_d (e_var 0) (a_d (e_var 1) a_nil))) (fun _ _ _ _ => (g_tup2 (i := 0) (j := 1) rfl (show (["shaft", "bit"] : List Str).Nodup by decide +kernel))) (fun _ _ _ _ => ptl_one (t_cmp (opEq hu) o_eq (bd (e_var 1)) (bd e_int) (nomark _))) (fun _ _ _ _ => (e_var 0)) sub_T2 src_ok)) a_nil))) a_nil))))
noncomputable def mb_least_loom : Ev → R Fl := (sSeq (sSet 1 (mFn m_numbers_by_first_standing (mCons (mFn m_columns (mCons (mV 0) mNil)) mNil)))
  (sSeq (sSet 2 (mFn m_numbers_by_first_standing (mCons (mV 0) mNil)))
  (sSeq (sSet 3 (mFn tupleD (mCons (mLc (mItems (mFn m_columns (mCons (mV 0) mNil))) [none, some 1] (gN 0) mYes (m2 (mV 1) (mV 0) ixK)) mNil)))
  (sSeq (sSet 4 (mFn tupleD (mCons (mLc (mItems (mFn keysD (mCons (mV 2) mNil))) [none, some 3] (gN 0) mYes (mFn m_lifted_shafts (mCons (mV 1) (mCons (mV 0) mNil)))) mNil)))
  (sSeq (sSet 5 (mFn tupleD (mCons (mLc (mItems (mV 0)) [none, some 2] (gN 0) mYes (m2 (mV 1) (mV 0) ixK)) mNil)))
  (sRet (mTup (mCons (mV 3) (mCons (mV 4) (mCons (mV 5) mNil))))))))))
noncomputable def m_least_loom : List D → R D := runB 6 mb_least_loom
theorem sc_least_loom : FnScope ["cloth", "shafts", "treadles", "threading", "ties", "treading"] ["cloth"] (defScope s_least_loom) := ⟨rfl, rfl, rfl, by decide +kernel, rfl, by decide +kernel, by decide +kernel⟩
set_option maxHeartbeats 4000000 in
theorem fn_least_loom (p : Pr K mg w aBadLoom) {f : Addr} {fd : FuncData} (D : DefOk K mg "least_loom" s_least_loom ["cloth"] f fd) : FnOk P w K mg base (CX1 P w) 3 f fd ["cloth"] (spD K mg w 1 m_least_loom) := by
  obtain ⟨f_numbers_by_first_standing, fd_numbers_by_first_standing, D_numbers_by_first_standing⟩ := p.d_numbers_by_first_standing
  have G_numbers_by_first_standing := fn_numbers_by_first_standing (P := P) (w := w) (base := base) p D_numbers_by_first_standing
  obtain ⟨f_columns, fd_columns, D_columns⟩ := p.d_columns
  have G_columns := fn_columns (P := P) (w := w) (base := base) p D_columns
  obtain ⟨f_lifted_shafts, fd_lifted_shafts, D_lifted_shafts⟩ := p.d_lifted_shafts
  have G_lifted_shafts := fn_lifted_shafts (P := P) (w := w) (base := base) p D_lifted_shafts
  refine fnD (ow := [false, false, false, false, false, false]) (k := 2) D.F sc_least_loom rfl fun cdv A outer s H E hr => ?_
  have hu := hr.units
  exact (ss_cons (s_set (i := 1) sc_least_loom.nd (e_call G_numbers_by_first_standing (hr.mono (by decide)) D_numbers_by_first_standing.m D_numbers_by_first_standing.F.kp D_numbers_by_first_standing.b (pass1 fun _ _ h => h) (a_d (e_call G_columns (hr.mono (by decide)) D_columns.m D_columns.F.kp D_columns.b (pass1 fun _ _ h => h) (a_d (e_var 0) a_nil) (n_cons (n_nil))) a_nil) (n_cons (n_nil))))
    (ss_cons (s_set (i := 2) sc_least_loom.nd (e_call G_numbers_by_first_standing (hr.mono (by decide)) D_numbers_by_first_standing.m D_numbers_by_first_standing.F.kp D_numbers_by_first_standing.b (pass1 fun _ _ h => h) (a_d (e_var 0) a_nil) (n_cons (n_nil))))
    (ss_cons (s_set (i := 3) sc_least_loom.nd (e_callTy callTuple o_tuple p.b_tuple Wv.bt_tuple (a_b (bf (e_lc (N' := ["line", "shafts"]) (src := [none, some 1]) (LcOk.of ["cloth", "shafts", "treadles", "threading", "ties", "treading"] (defScope s_least_loom) rfl rfl (by decide +kernel)) (i_seq (e_call G_columns (hr.mono (by decide)) D_columns.m D_columns.F.kp D_columns.b (pass1 fun _ _ h => h) (a_d (e_var 0) a_nil) (n_cons (n_nil)))) (fun _ _ _ _ => (g_name (i := 0) (show (["line", "shafts"] : List Str).Nodup by decide +kernel))) (fun _ _ _ _ => ptl_yes) (fun _ _ _ _ => (e_ix (ixDict hu) o_ixK (bd (e_var 1)) (bd (e_var 0)))) sub_N src_ok)) a_nil)))
    (ss_cons (s_set (i := 4) sc_least_loom.nd (e_callTy callTuple o_tuple p.b_tuple Wv.bt_tuple (a_b (bf (e_lc (N' := ["row", "threading"]) (src := [none, some 3]) (LcOk.of ["cloth", "shafts", "treadles", "threading", "ties", "treading"] (defScope s_least_loom) rfl rfl (by decide +kernel)) (i_seq (f2d (e_callTy callListX o_keys p.b_list Wv.bt_list (a_b (bd (e_var 2)) a_nil)))) (fun _ _ _ _ => (g_name (i := 0) (show (["row", "threading"] : List Str).Nodup by decide +kernel))) (fun _ _ _ _ => ptl_yes) (fun _ _ _ _ => (e_call G_lifted_shafts (hr.mono (by decide)) D_lifted_shafts.m D_lifted_shafts.F.kp D_lifted_shafts.b passE0 (a_d (e_var 1) (a_d (e_var 0) a_nil)) (n_cons (n_cons (n_nil))))) sub_N src_ok)) a_nil)))
    (ss_cons (s_set (i := 5) sc_least_loom.nd (e_callTy callTuple o_tuple p.b_tuple Wv.bt_tuple (a_b (bf (e_lc (N' := ["row", "treadles"]) (src := [none, some 2]) (LcOk.of ["cloth", "shafts", "treadles", "threading", "ties", "treading"] (defScope s_least_loom) rfl rfl (by decide +kernel)) (i_seq (e_var 0)) (fun _ _ _ _ => (g_name (i := 0) (show (["row", "treadles"] : List Str).Nodup by decide +kernel))) (fun _ _ _ _ => ptl_yes) (fun _ _ _ _ => (e_ix (ixDict hu) o_ixK (bd (e_var 1)) (bd (e_var 0)))) sub_N src_ok)) a_nil)))
    (ss_one (s_ret (e_tup (a_d (e_var 3) (a_d (e_var 4) (a_d (e_var 5) a_nil)))))))))))
noncomputable def mb__law_cell : Ev → R Fl := (sSeq (sIf (mTst (m2 (mV 1) (mFn lenD (mCons (mV 0) mNil)) ltD))
  (sRet (m2 (mV 0) (mV 1) ixD))
  sNil)
  (sRet (mC (.int 0))))
noncomputable def m__law_cell : List D → R D := runB 2 mb__law_cell
theorem sc__law_cell : FnScope ["_law_script", "_law_k"] ["_law_script", "_law_k"] (defScope s__law_cell) := ⟨rfl, rfl, rfl, by decide +kernel, rfl, by decide +kernel, by decide +kernel⟩
set_option maxHeartbeats 4000000 in
theorem fn__law_cell (p : Pr K mg w aBadLoom) {f : Addr} {fd : FuncData} (D : DefOk K mg "_law_cell" s__law_cell ["_law_script", "_law_k"] f fd) : FnOk P w K mg base (CX1 P w) 1 f fd ["_law_script", "_law_k"] (spD K mg w 2 m__law_cell) := by
  refine fnD (ow := [false, false]) (k := 0) D.F sc__law_cell rfl fun cdv A outer s H E hr => ?_
  have hu := hr.units
  exact (ss_cons (s_if (t_cmp op_lt o_lt (bd (e_var 1)) (bd (e_callB callLen o_len p.b_len Wv.bt_len (a_b (bd (e_var 0)) a_nil))) (nomark _))
    (ss_one (s_ret (e_ix ixAll o_ix (bd (e_var 0)) (bd (e_var 1)))))
    ss_nil)
    (ss_one (s_ret e_int)))
noncomputable def mb__law_mix : Ev → R Fl := (sRet (m2 (m2 (m2 (mV 0) (mC (.int 48271)) mulD) (mV 1) modD) (mV 2) modD))
noncomputable def m__law_mix : List D → R D := runB 3 mb__law_mix
theorem sc__law_mix : FnScope ["_law_cell_here", "_law_prime", "_law_many"] ["_law_cell_here", "_law_prime", "_law_many"] (defScope s__law_mix) := ⟨rfl, rfl, rfl, by decide +kernel, rfl, by decide +kernel, by decide +kernel⟩
set_option maxHeartbeats 4000000 in
theorem fn__law_mix (p : Pr K mg w aBadLoom) {f : Addr} {fd : FuncData} (D : DefOk K mg "_law_mix" s__law_mix ["_law_cell_here", "_law_prime", "_law_many"] f fd) : FnOk P w K mg base (CX1 P w) 1 f fd ["_law_cell_here", "_law_prime", "_law_many"] (spD K mg w 3 m__law_mix) := by
  refine fnD (ow := [false, false, false]) (k := 0) D.F sc__law_mix rfl fun cdv A outer s H E hr => ?_
  have hu := hr.units
  exact (ss_one (s_ret (e_op op_mod o_mod (bd (e_op op_mod o_mod (bd (e_op op_mulAll o_mul (bd (e_var 0)) (bd e_int))) (bd (e_var 1)))) (bd (e_var 2)))))
noncomputable def mb__law_size : Ev → R Fl := (sSeq (sIf (mTst (m2 (mFn m__law_mix (mCons (mV 0) (mCons (mC (.int 9901)) (mCons (mC (.int 8)) mNil)))) (mC (.int 3)) eqD))
  (sRet (m2 (mC (.int 1)) (mFn m__law_mix (mCons (mV 0) (mCons (mC (.int 9973)) (mCons (mC (.int 16)) mNil)))) addD))
  sNil)
  (sRet (m2 (mC (.int 1)) (mFn m__law_mix (mCons (mV 0) (mCons (mC (.int 9973)) (mCons (mC (.int 6)) mNil)))) addD)))
noncomputable def m__law_size : List D → R D := runB 1 mb__law_size
theorem sc__law_size : FnScope ["_law_cell_here"] ["_law_cell_here"] (defScope s__law_size) := ⟨rfl, rfl, rfl, by decide +kernel, rfl, by decide +kernel, by decide +kernel⟩
set_option maxHeartbeats 4000000 in
theorem fn__law_size (p : Pr K mg w aBadLoom) {f : Addr} {fd : FuncData} (D : DefOk K mg "_law_size" s__law_size ["_law_cell_here"] f fd) : FnOk P w K mg base (CX1 P w) 2 f fd ["_law_cell_here"] (spD K mg w 1 m__law_size) := by
  obtain ⟨f__law_mix, fd__law_mix, D__law_mix⟩ := p.d__law_mix
  have G__law_mix := fn__law_mix (P := P) (w := w) (base := base) p D__law_mix
  refine fnD (ow := [false]) (k := 1) D.F sc__law_size rfl fun cdv A outer s H E hr => ?_
  have hu := hr.units
  exact (ss_cons (s_if (t_cmp (opEq hu) o_eq (bd (e_call G__law_mix (hr.mono (by decide)) D__law_mix.m D__law_mix.F.kp D__law_mix.b (pass1 fun _ _ h => h) (a_d (e_var 0) (a_d e_int (a_d e_int a_nil))) (n_cons (n_cons (n_cons (n_nil)))))) (bd e_int) (nomark _))
    (ss_one (s_ret (e_op op_addAll o_add (bd e_int) (bd (e_call G__law_mix (hr.mono (by decide)) D__law_mix.m D__law_mix.F.kp D__law_mix.b (pass1 fun _ _ h => h) (a_d (e_var 0) (a_d e_int (a_d e_int a_nil))) (n_cons (n_cons (n_cons (n_nil)))))))))
    ss_nil)
    (ss_one (s_ret (e_op op_addAll o_add (bd e_int) (bd (e_call G__law_mix (hr.mono (by decide)) D__law_mix.m D__law_mix.F.kp D__law_mix.b (pass1 fun _ _ h => h) (a_d (e_var 0) (a_d e_int (a_d e_int a_nil))) (n_cons (n_cons (n_cons (n_nil))))))))))
noncomputable def mb__law_cloth : Ev → R Fl := (sSeq (sSet 2 (mFn m__law_size (mCons (mFn m__law_cell (mCons (mV 0) (mCons (mV 1) mNil))) mNil)))
  (sSeq (sSet 3 (mFn m__law_size (mCons (mFn m__law_cell (mCons (mV 0) (mCons (m2 (mV 1) (mC (.int 1)) addD) mNil))) mNil)))
  (sSeq (sSet 4 (mFn m__law_mix (mCons (m2 (mFn m__law_cell (mCons (mV 0) (mCons (mV 1) mNil))) (m2 (mC (.int 3)) (mFn m__law_cell (mCons (mV 0) (mCons (m2 (mV 1) (mC (.int 1)) addD) mNil))) mulD) addD) (mCons (mC (.int 9871)) (mCons (mC (.int 3)) mNil)))))
  (sSeq (sSet 5 (mLst mNil))
  (sSeq (sFor (mIt (mCons (mV 2) mNil) ran1) (gN 6)
  (sSeq (sSet 7 (mLst mNil))
  (sSeq (sFor (mIt (mCons (mV 3) mNil) ran1) (gN 8)
  (sSeq (sSet 9 (m2 (m2 (mFn m__law_cell (mCons (mV 0) (mCons (m2 (m2 (mV 1) (mC (.int 2)) addD) (m2 (m2 (m2 (mC (.int 3)) (mV 6) mulD) (mV 8) addD) (mC (.int 12)) modD) addD) mNil))) (m2 (m2 (mC (.int 31)) (mV 6) mulD) (mV 6) mulD) addD) (m2 (m2 (mC (.int 57)) (mV 8) mulD) (mV 8) mulD) addD))
  (sSeq (sSet 10 (mFn m__law_mix (mCons (mV 9) (mCons (mC (.int 9949)) (mCons (mC (.int 2)) mNil)))))
  (sSeq (sIf (mTst (m2 (mV 4) (mC (.int 1)) eqD))
  (sSet 10 (mFn intOfD (mCons (m2 (m2 (m2 (m2 (mV 6) (mV 8) addD) (m2 (mFn m__law_mix (mCons (mV 9) (mCons (mC (.int 9941)) (mCons (mC (.int 12)) mNil)))) (mC (.int 11)) fdivD) addD) (mC (.int 3)) modD) (mC (.int 0)) gtD) mNil)))
  sNil)
  (sSeq (sIf (mTst (m2 (mV 4) (mC (.int 2)) eqD))
  (sSet 10 (mFn intOfD (mCons (m2 (mFn m__law_mix (mCons (mV 9) (mCons (mC (.int 9931)) (mCons (mC (.int 6)) mNil)))) (mC (.int 0)) eqD) mNil)))
  sNil)
  (sApp 7 (mV 10)))))))
  (sApp 5 (mFn tupleD (mCons (mV 7) mNil))))))
  (sRet (mFn tupleD (mCons (mV 5) mNil))))))))
noncomputable def m__law_cloth : List D → R D := runB 11 mb__law_cloth
theorem sc__law_cloth : FnScope ["_law_script", "_law_at", "_law_rows", "_law_wide", "_law_way", "_law_found", "_law_r", "_law_row", "_law_c", "_law_seed", "_law_bit"] ["_law_script", "_law_at"] (defScope s__law_cloth) := ⟨rfl, rfl, rfl, by decide +kernel, rfl, by decide +kernel, by decide +kernel⟩
set_option maxHeartbeats 4000000 in
theorem fn__law_cloth (p : Pr K mg w aBadLoom) {f : Addr} {fd : FuncData} (D : DefOk K mg "_law_cloth" s__law_cloth ["_law_script", "_law_at"] f fd) : FnOk P w K mg base (CX1 P w) 3 f fd ["_law_script", "_law_at"] (spD K mg w 2 m__law_cloth) := by
  obtain ⟨f__law_size, fd__law_size, D__law_size⟩ := p.d__law_size
  have G__law_size := fn__law_size (P := P) (w := w) (base := base) p D__law_size
  obtain ⟨f__law_cell, fd__law_cell, D__law_cell⟩ := p.d__law_cell
  have G__law_cell := fn__law_cell (P := P) (w := w) (base := base) p D__law_cell
  obtain ⟨f__law_mix, fd__law_mix, D__law_mix⟩ := p.d__law_mix
  have G__law_mix := fn__law_mix (P := P) (w := w) (base := base) p D__law_mix
  refine fnD (ow := [false, false, false, false, false, true, false, true, false, false, false]) (k := 2) D.F sc__law_cloth rfl fun cdv A outer s H E hr => ?_
  have hu := hr.units
  exact (ss_cons (s_set (i := 2) sc__law_cloth.nd (e_call G__law_size (hr.mono (by decide)) D__law_size.m D__law_size.F.kp D__law_size.b (pass1 fun _ _ h => h) (a_d (e_call G__law_cell (hr.mono (by decide)) D__law_cell.m D__law_cell.F.kp D__law_cell.b (pass1 fun _ _ h => h) (a_d (e_var 0) (a_d (e_var 1) a_nil)) (n_cons (n_cons (n_nil)))) a_nil) (n_cons (n_nil))))
    (ss_cons (s_set (i := 3) sc__law_cloth.nd (e_call G__law_size (hr.mono (by decide)) D__law_size.m D__law_size.F.kp D__law_size.b (pass1 fun _ _ h => h) (a_d (e_call G__law_cell (hr.mono (by decide)) D__law_cell.m D__law_cell.F.kp D__law_cell.b (pass1 fun _ _ h => h) (a_d (e_var 0) (a_d (e_op op_addAll o_add (bd (e_var 1)) (bd e_int)) a_nil)) (n_cons (n_cons (n_nil)))) a_nil) (n_cons (n_nil))))
    (ss_cons (s_set (i := 4) sc__law_cloth.nd (e_call G__law_mix (hr.mono (by decide)) D__law_mix.m D__law_mix.F.kp D__law_mix.b (pass1 fun _ _ h => h) (a_d (e_op op_addAll o_add (bd (e_call G__law_cell (hr.mono (by decide)) D__law_cell.m D__law_cell.F.kp D__law_cell.b (pass1 fun _ _ h => h) (a_d (e_var 0) (a_d (e_var 1) a_nil)) (n_cons (n_cons (n_nil))))) (bd (e_op op_mulAll o_mul (bd e_int) (bd (e_call G__law_cell (hr.mono (by decide)) D__law_cell.m D__law_cell.F.kp D__law_cell.b (pass1 fun _ _ h => h) (a_d (e_var 0) (a_d (e_op op_addAll o_add (bd (e_var 1)) (bd e_int)) a_nil)) (n_cons (n_cons (n_nil)))))))) (a_d e_int (a_d e_int a_nil))) (n_cons (n_cons (n_cons (n_nil))))))
    (ss_cons (s_setF (i := 5) sc__law_cloth.nd (e_lst a_nil))
    (ss_cons (s_for PassesOwn.leaving (i_ran1 p.b_range (a_b (bd (e_var 2)) a_nil)) (g_name (i := 6) sc__law_cloth.nd)
    (ss_cons (s_setF (i := 7) sc__law_cloth.nd (e_lst a_nil))
    (ss_cons (s_for PassesOwn.leaving (i_ran1 p.b_range (a_b (bd (e_var 3)) a_nil)) (g_name (i := 8) sc__law_cloth.nd)
    (ss_cons (s_set (i := 9) sc__law_cloth.nd (e_op op_addAll o_add (bd (e_op op_addAll o_add (bd (e_call G__law_cell (hr.mono (by decide)) D__law_cell.m D__law_cell.F.kp D__law_cell.b (pass1 fun _ _ h => h) (a_d (e_var 0) (a_d (e_op op_addAll o_add (bd (e_op op_addAll o_add (bd (e_var 1)) (bd e_int))) (bd (e_op op_mod o_mod (bd (e_op op_addAll o_add (bd (e_op op_mulAll o_mul (bd e_int) (bd (e_var 6)))) (bd (e_var 8)))) (bd e_int)))) a_nil)) (n_cons (n_cons (n_nil))))) (bd (e_op op_mulAll o_mul (bd (e_op op_mulAll o_mul (bd e_int) (bd (e_var 6)))) (bd (e_var 6)))))) (bd (e_op op_mulAll o_mul (bd (e_op op_mulAll o_mul (bd e_int) (bd (e_var 8)))) (bd (e_var 8))))))
    (ss_cons (s_set (i := 10) sc__law_cloth.nd (e_call G__law_mix (hr.mono (by decide)) D__law_mix.m D__law_mix.F.kp D__law_mix.b (pass1 fun _ _ h => h) (a_d (e_var 9) (a_d e_int (a_d e_int a_nil))) (n_cons (n_cons (n_cons (n_nil))))))
    (ss_cons (s_if (t_cmp (opEq hu) o_eq (bd (e_var 4)) (bd e_int) (nomark _))
    (ss_one (s_set (i := 10) sc__law_cloth.nd (e_callTy callInt o_intOf p.b_int Wv.bt_int (a_b (bd (e_cmp op_gt o_gt (bd (e_op op_mod o_mod (bd (e_op op_addAll o_add (bd (e_op op_addAll o_add (bd (e_var 6)) (bd (e_var 8)))) (bd (e_op op_fdiv o_fdiv (bd (e_call G__law_mix (hr.mono (by decide)) D__law_mix.m D__law_mix.F.kp D__law_mix.b (pass1 fun _ _ h => h) (a_d (e_var 9) (a_d e_int (a_d e_int a_nil))) (n_cons (n_cons (n_cons (n_nil)))))) (bd e_int))))) (bd e_int))) (bd e_int) (nomark _))) a_nil))))
    ss_nil)
    (ss_cons (s_if (t_cmp (opEq hu) o_eq (bd (e_var 4)) (bd e_int) (nomark _))
    (ss_one (s_set (i := 10) sc__law_cloth.nd (e_callTy callInt o_intOf p.b_int Wv.bt_int (a_b (bd (e_cmp (opEq hu) o_eq (bd (e_call G__law_mix (hr.mono (by decide)) D__law_mix.m D__law_mix.F.kp D__law_mix.b (pass1 fun _ _ h => h) (a_d (e_var 9) (a_d e_int (a_d e_int a_nil))) (n_cons (n_cons (n_cons (n_nil)))))) (bd e_int) (nomark _))) a_nil))))
    ss_nil)
    (ss_one (s_app (i := 7) (e_var 10))))))))
    (ss_one (s_app (i := 5) (e_callTy callTuple o_tuple p.b_tuple Wv.bt_tuple (a_b (b_var 7) a_nil)))))))
    (ss_one (s_ret (e_callTy callTuple o_tuple p.b_tuple Wv.bt_tuple (a_b (b_var 5) a_nil)))))))))
noncomputable def mb__law_loom : Ev → R Fl := (sSeq (sSet 2 (mFn m__law_size (mCons (mFn m__law_cell (mCons (mV 0) (mCons (mV 1) mNil))) mNil)))
  (sSeq (sSet 3 (mFn m__law_size (mCons (mFn m__law_cell (mCons (mV 0) (mCons (m2 (mV 1) (mC (.int 1)) addD) mNil))) mNil)))
  (sSeq (sSet 4 (m2 (mC (.int 1)) (mFn m__law_mix (mCons (mFn m__law_cell (mCons (mV 0) (mCons (m2 (mV 1) (mC (.int 2)) addD) mNil))) (mCons (mC (.int 9907)) (mCons (mC (.int 6)) mNil)))) addD))
  (sSeq (sSet 5 (m2 (mC (.int 1)) (mFn m__law_mix (mCons (mFn m__law_cell (mCons (mV 0) (mCons (m2 (mV 1) (mC (.int 3)) addD) mNil))) (mCons (mC (.int 9907)) (mCons (mC (.int 5)) mNil)))) addD))
  (sSeq (sSet 6 (mLst mNil))
  (sSeq (sFor (mIt (mCons (mV 5) mNil) ran1) (gN 7)
  (sSeq (sSet 8 (m2 (mFn m__law_cell (mCons (mV 0) (mCons (m2 (m2 (mV 1) (mC (.int 4)) addD) (mV 7) addD) mNil))) (m2 (m2 (mC (.int 13)) (mV 7) mulD) (mV 7) mulD) addD))
  (sApp 6 (mFn tupleD (mCons (mLc (mIt (mCons (mV 4) mNil) ran1) [none, some 8] (gN 0) (mTst (m2 (mFn m__law_mix (mCons (m2 (mV 1) (m2 (m2 (mC (.int 29)) (mV 0) mulD) (mV 0) mulD) addD) (mCons (mC (.int 9887)) (mCons (mC (.int 2)) mNil)))) (mC (.int 0)) eqD)) (mV 0)) mNil)))))
  (sSeq (sSet 9 (mLc (mIt (mCons (mV 2) mNil) ran1) [none, some 4, some 0, some 1] (gN 0) mYes (mFn m__law_mix (mCons (m2 (mFn m__law_cell (mCons (mV 2) (mCons (m2 (m2 (mV 3) (mC (.int 5)) addD) (m2 (mV 0) (mC (.int 5)) modD) addD) mNil))) (m2 (m2 (mC (.int 17)) (mV 0) mulD) (mV 0) mulD) addD) (mCons (mC (.int 9883)) (mCons (mV 1) mNil))))))
  (sSeq (sSet 10 (mLc (mIt (mCons (mV 3) mNil) ran1) [none, some 5, some 0, some 1] (gN 0) mYes (mFn m__law_mix (mCons (m2 (mFn m__law_cell (mCons (mV 2) (mCons (m2 (m2 (mV 3) (mC (.int 6)) addD) (m2 (mV 0) (mC (.int 5)) modD) addD) mNil))) (m2 (m2 (mC (.int 19)) (mV 0) mulD) (mV 0) mulD) addD) (mCons (mC (.int 9871)) (mCons (mV 1) mNil))))))
  (sRet (mTup (mCons (mFn tupleD (mCons (mV 9) mNil)) (mCons (mFn tupleD (mCons (mV 6) mNil)) (mCons (mFn tupleD (mCons (mV 10) mNil)) mNil)))))))))))))
noncomputable def m__law_loom : List D → R D := runB 11 mb__law_loom
theorem sc__law_loom : FnScope ["_law_script", "_law_at", "_law_warps", "_law_wefts", "_law_shafts", "_law_treadles", "_law_ties", "_law_t", "_law_seed", "_law_threading", "_law_treading"] ["_law_script", "_law_at"] (defScope s__law_loom) := ⟨rfl, rfl, rfl, by decide +kernel, rfl, by decide +kernel, by decide +kernel⟩
set_option maxHeartbeats 4000000 in
theorem fn__law_loom (p : Pr K mg w aBadLoom) {f : Addr} {fd : FuncData} (D : DefOk K mg "_law_loom" s__law_loom ["_law_script", "_law_at"] f fd) : FnOk P w K mg base (CX1 P w) 3 f fd ["_law_script", "_law_at"] (spD K mg w 2 m__law_loom) := by
  obtain ⟨f__law_size, fd__law_size, D__law_size⟩ := p.d__law_size
  have G__law_size := fn__law_size (P := P) (w := w) (base := base) p D__law_size
  obtain ⟨f__law_cell, fd__law_cell, D__law_cell⟩ := p.d__law_cell
  have G__law_cell := fn__law_cell (P := P) (w := w) (base := base) p D__law_cell
  obtain ⟨f__law_mix, fd__law_mix, D__law_mix⟩ := p.d__law_mix
  have G__law_mix := fn__law_mix (P := P) (w := w) (base := base) p D__law_mix
  refine fnD (ow := [false, false, false, false, false, false, true, false, false, false, false]) (k := 2) D.F sc__law_loom rfl fun cdv A outer s H E hr => ?_
  have hu := hr.units
  exact (ss_cons (s_set (i := 2) sc__law_loom.nd (e_call G__law_size (hr.mono (by decide)) D__law_size.m D__law_size.F.kp D__law_size.b (pass1 fun _ _ h => h) (a_d (e_call G__law_cell (hr.mono (by decide)) D__law_cell.m D__law_cell.F.kp D__law_cell.b (pass1 fun _ _ h => h) (a_d (e_var 0) (a_d (e_var 1) a_nil)) (n_cons (n_cons (n_nil)))) a_nil) (n_cons (n_nil))))
    (ss_cons (s_set (i := 3) sc__law_loom.nd (e_call G__law_size (hr.mono (by decide)) D__law_size.m D__law_size.F.kp D__law_size.b (pass1 fun _ _ h => h) (a_d (e_call G__law_cell (hr.mono (by decide)) D__law_cell.m D__law_cell.F.kp D__law_cell.b (pass1 fun _ _ h => h) (a_d (e_var 0) (a_d (e_op op_addAll o_add (bd (e_var 1)) (bd e_int)) a_nil)) (n_cons (n_cons (n_nil)))) a_nil) (n_cons (n_nil))))
    (ss_cons (s_set (i := 4) sc__law_loom.nd (e_op op_addAll o_add (bd e_int) (bd (e_call G__law_mix (hr.mono (by decide)) D__law_mix.m D__law_mix.F.kp D__law_mix.b (pass1 fun _ _ h => h) (a_d (e_call G__law_cell (hr.mono (by decide)) D__law_cell.m D__law_cell.F.kp D__law_cell.b (pass1 fun _ _ h => h) (a_d (e_var 0) (a_d (e_op op_addAll o_add (bd (e_var 1)) (bd e_int)) a_nil)) (n_cons (n_cons (n_nil)))) (a_d e_int (a_d e_int a_nil))) (n_cons (n_cons (n_cons (n_nil))))))))
    (ss_cons (s_set (i := 5) sc__law_loom.nd (e_op op_addAll o_add (bd e_int) (bd (e_call G__law_mix (hr.mono (by decide)) D__law_mix.m D__law_mix.F.kp D__law_mix.b (pass1 fun _ _ h => h) (a_d (e_call G__law_cell (hr.mono (by decide)) D__law_cell.m D__law_cell.F.kp D__law_cell.b (pass1 fun _ _ h => h) (a_d (e_var 0) (a_d (e_op op_addAll o_add (bd (e_var 1)) (bd e_int)) a_nil)) (n_cons (n_cons (n_nil)))) (a_d e_int (a_d e_int a_nil))) (n_cons (n_cons (n_cons (n_nil))))))))
    (ss_cons (s_setF (i := 6) sc__law_loom.nd (e_lst a_nil))
    (ss_cons (s_for PassesOwn.leaving (i_ran1 p.b_range (a_b (bd (e_var 5)) a_nil)) (g_name (i := 7) sc__law_loom.nd)
    (ss_cons (s_set (i := 8) sc__law_loom.nd (e_op op_addAll o_add (bd (e_call G__law_cell (hr.mono (by decide)) D__law_cell.m D__law_cell.F.kp D__law_cell.b (pass1 fun _ _ h => h) (a_d (e_var 0) (a_d (e_op op_addAll o_add (bd (e_op op_addAll o_add (bd (e_var 1)) (bd e_int))) (bd (e_var 7))) a_nil)) (n_cons (n_cons (n_nil))))) (bd (e_op op_mulAll o_mul (bd (e_op op_mulAll o_mul (bd e_int) (bd (e_var 7)))) (bd (e_var 7))))))
    (ss_one (s_app (i := 6) (e_callTy callTuple o_tuple p.b_tuple Wv.bt_tuple (a_b (bf (e_lc (N' := ["_law_s", "_law_seed"]) (src := [none, some 8]) (LcOk.of ["_law_script", "_law_at", "_law_warps", "_law_wefts", "_law_shafts", "_law_treadles", "_law_ties", "_law_t", "_law_seed", "_law_threading", "_law_treading"] (defScope s__law_loom) rfl rfl (by decide +kernel)) (i_ran1 p.b_range (a_b (bd (e_var 4)) a_nil)) (fun _ _ _ _ => (g_name (i := 0) (show (["_law_s", "_law_seed"] : List Str).Nodup by decide +kernel))) (fun _ _ _ _ => ptl_one (t_cmp (opEq hu) o_eq (bd (e_call G__law_mix (hr.mono (by decide)) D__law_mix.m D__law_mix.F.kp D__law_mix.b passE0 (a_d (e_op op_addAll o_add (bd (e_var 1)) (bd (e_op op_mulAll o_mul (bd (e_op op_mulAll o_mul (bd e_int) (bd (e_var 0)))) (bd (e_var 0))))) (a_d e_int (a_d e_int a_nil))) (n_cons (n_cons (n_cons (n_nil)))))) (bd e_int) (nomark _))) (fun _ _ _ _ => (e_var 0)) sub_N src_ok)) a_nil))))))
    (ss_cons (s_setLc (i := 9) sc__law_loom.nd (N' := ["_law_k", "_law_shafts", "_law_script", "_law_at"]) (src := [none, some 4, some 0, some 1]) (LcOk.of ["_law_script", "_law_at", "_law_warps", "_law_wefts", "_law_shafts", "_law_treadles", "_law_ties", "_law_t", "_law_seed", "_law_threading", "_law_treading"] (defScope s__law_loom) rfl rfl (by decide +kernel)) (i_ran1 p.b_range (a_b (bd (e_var 2)) a_nil)) (fun _ _ _ _ => (g_name (i := 0) (show (["_law_k", "_law_shafts", "_law_script", "_law_at"] : List Str).Nodup by decide +kernel))) (fun _ _ _ _ => ptl_yes) (fun _ _ _ _ => (e_call G__law_mix (hr.mono (by decide)) D__law_mix.m D__law_mix.F.kp D__law_mix.b passE0 (a_d (e_op op_addAll o_add (bd (e_call G__law_cell (hr.mono (by decide)) D__law_cell.m D__law_cell.F.kp D__law_cell.b passE0 (a_d (e_var 2) (a_d (e_op op_addAll o_add (bd (e_op op_addAll o_add (bd (e_var 3)) (bd e_int))) (bd (e_op op_mod o_mod (bd (e_var 0)) (bd e_int)))) a_nil)) (n_cons (n_cons (n_nil))))) (bd (e_op op_mulAll o_mul (bd (e_op op_mulAll o_mul (bd e_int) (bd (e_var 0)))) (bd (e_var 0))))) (a_d e_int (a_d (e_var 1) a_nil))) (n_cons (n_cons (n_cons (n_nil)))))) sub_N src_ok)
    (ss_cons (s_setLc (i := 10) sc__law_loom.nd (N' := ["_law_k", "_law_treadles", "_law_script", "_law_at"]) (src := [none, some 5, some 0, some 1]) (LcOk.of ["_law_script", "_law_at", "_law_warps", "_law_wefts", "_law_shafts", "_law_treadles", "_law_ties", "_law_t", "_law_seed", "_law_threading", "_law_treading"] (defScope s__law_loom) rfl rfl (by decide +kernel)) (i_ran1 p.b_range (a_b (bd (e_var 3)) a_nil)) (fun _ _ _ _ => (g_name (i := 0) (show (["_law_k", "_law_treadles", "_law_script", "_law_at"] : List Str).Nodup by decide +kernel))) (fun _ _ _ _ => ptl_yes) (fun _ _ _ _ => (e_call G__law_mix (hr.mono (by decide)) D__law_mix.m D__law_mix.F.kp D__law_mix.b passE0 (a_d (e_op op_addAll o_add (bd (e_call G__law_cell (hr.mono (by decide)) D__law_cell.m D__law_cell.F.kp D__law_cell.b passE0 (a_d (e_var 2) (a_d (e_op op_addAll o_add (bd (e_op op_addAll o_add (bd (e_var 3)) (bd e_int))) (bd (e_op op_mod o_mod (bd (e_var 0)) (bd e_int)))) a_nil)) (n_cons (n_cons (n_nil))))) (bd (e_op op_mulAll o_mul (bd (e_op op_mulAll o_mul (bd e_int) (bd (e_var 0)))) (bd (e_var 0))))) (a_d e_int (a_d (e_var 1) a_nil))) (n_cons (n_cons (n_cons (n_nil)))))) sub_N src_ok)
    (ss_one (s_ret (e_tup (a_d (e_callTy callTuple o_tuple p.b_tuple Wv.bt_tuple (a_b (bd (e_var 9)) a_nil)) (a_d (e_callTy callTuple o_tuple p.b_tuple Wv.bt_tuple (a_b (b_var 6) a_nil)) (a_d (e_callTy callTuple o_tuple p.b_tuple Wv.bt_tuple (a_b (bd (e_var 10)) a_nil)) a_nil))))))))))))))
noncomputable def mb__law_woven : Ev → R Fl := (sSeq (sSet 1 (mLst mNil))
  (sSeq (sFor (mItems (m2 (mV 0) (mC (.int 2)) ixD)) (gN 2)
  (sApp 1 (mFn tupleD (mCons (mLc (mItems (m2 (mV 0) (mC (.int 0)) ixD)) [none, some 2, some 0] (gN 0) mYes (mFn intOfD (mCons (m2 (mV 0) (m2 (m2 (mV 2) (mC (.int 1)) ixD) (mV 1) ixD) (inQ false)) mNil))) mNil))))
  (sRet (mFn tupleD (mCons (mV 1) mNil)))))
noncomputable def m__law_woven : List D → R D := runB 3 mb__law_woven
theorem sc__law_woven : FnScope ["_law_loom_here", "_law_found", "_law_treadle"] ["_law_loom_here"] (defScope s__law_woven) := ⟨rfl, rfl, rfl, by decide +kernel, rfl, by decide +kernel, by decide +kernel⟩
set_option maxHeartbeats 4000000 in
theorem fn__law_woven (p : Pr K mg w aBadLoom) {f : Addr} {fd : FuncData} (D : DefOk K mg "_law_woven" s__law_woven ["_law_loom_here"] f fd) : FnOk P w K mg base (CX1 P w) 1 f fd ["_law_loom_here"] (spD K mg w 1 m__law_woven) := by
  refine fnD (ow := [false, true, false]) (k := 0) D.F sc__law_woven rfl fun cdv A outer s H E hr => ?_
  have hu := hr.units
  exact (ss_cons (s_setF (i := 1) sc__law_woven.nd (e_lst a_nil))
    (ss_cons (s_for PassesOwn.leaving (i_seq (e_ix ixAll o_ix (bd (e_var 0)) (bd e_int))) (g_name (i := 2) sc__law_woven.nd)
    (ss_one (s_app (i := 1) (e_callTy callTuple o_tuple p.b_tuple Wv.bt_tuple (a_b (bf (e_lc (N' := ["_law_shaft", "_law_treadle", "_law_loom_here"]) (src := [none, some 2, some 0]) (LcOk.of ["_law_loom_here", "_law_found", "_law_treadle"] (defScope s__law_woven) rfl rfl (by decide +kernel)) (i_seq (e_ix ixAll o_ix (bd (e_var 0)) (bd e_int))) (fun _ _ _ _ => (g_name (i := 0) (show (["_law_shaft", "_law_treadle", "_law_loom_here"] : List Str).Nodup by decide +kernel))) (fun _ _ _ _ => ptl_yes) (fun _ _ _ _ => (e_callTy callInt o_intOf p.b_int Wv.bt_int (a_b (bd (e_cmp (opInQ hu) o_inQ (bd (e_var 0)) (bd (e_ix ixAll o_ix (bd (e_ix ixAll o_ix (bd (e_var 2)) (bd e_int))) (bd (e_var 1)))) (by with_unfolding_all rfl))) a_nil))) sub_N src_ok)) a_nil)))))
    (ss_one (s_ret (e_callTy callTuple o_tuple p.b_tuple Wv.bt_tuple (a_b (b_var 1) a_nil))))))
noncomputable def mb__law_firsts : Ev → R Fl := (sSeq (sSet 1 (mLst mNil))
  (sSeq (sFor (mItems (mV 0)) (gN 2)
  (sIf (mTst (m2 (mV 2) (mV 1) (inQ true)))
  (sApp 1 (mV 2))
  sNil))
  (sRet (mV 1))))
noncomputable def m__law_firsts : List D → R D := runB 3 mb__law_firsts
theorem sc__law_firsts : FnScope ["_law_row", "_law_found", "_law_number"] ["_law_row"] (defScope s__law_firsts) := ⟨rfl, rfl, rfl, by decide +kernel, rfl, by decide +kernel, by decide +kernel⟩
set_option maxHeartbeats 4000000 in
theorem fn__law_firsts (p : Pr K mg w aBadLoom) {f : Addr} {fd : FuncData} (D : DefOk K mg "_law_firsts" s__law_firsts ["_law_row"] f fd) : FnOk P w K mg base (CX1 P w) 1 f fd ["_law_row"] (spD K mg w 1 m__law_firsts) := by
  refine fnD (ow := [false, true, false]) (k := 0) D.F sc__law_firsts rfl fun cdv A outer s H E hr => ?_
  have hu := hr.units
  exact (ss_cons (s_setF (i := 1) sc__law_firsts.nd (e_lst a_nil))
    (ss_cons (s_for PassesOwn.leaving (i_seq (e_var 0)) (g_name (i := 2) sc__law_firsts.nd)
    (ss_one (s_if (t_cmp (opNotInQ hu) o_inQ (bd (e_var 2)) (b_var 1) (by with_unfolding_all rfl))
    (ss_one (s_app (i := 1) (e_var 2)))
    ss_nil)))
    (ss_one (s_retV 1))))
noncomputable def mb_law : Ev → R Fl := (sSeq (sSet 1 (mFn m__law_loom (mCons (mV 0) (mCons (mC (.int 2)) mNil))))
  (sSeq (sSet 2 (mFn m__law_woven (mCons (mV 1) mNil)))
  (sSeq (sIf (mTst (m2 (m2 (mFn m__law_cell (mCons (mV 0) (mCons (mC (.int 0)) mNil))) (mC (.int 2)) modD) (mC (.int 1)) eqD))
  (sSet 2 (mFn m__law_cloth (mCons (mV 0) (mCons (mC (.int 1)) mNil))))
  sNil)
  (sSeq (sSet 3 (mFn m_least_loom (mCons (mV 2) mNil)))
  (sSeq (sIf (mTor (mTst (m2 (mFn m_checked_loom (mCons (mV 3) mNil)) (mV 3) neD)) (mTst (m2 (mFn m__law_woven (mCons (mV 3) mNil)) (mV 2) neD)))
  (sRet (mC (.bl false)))
  sNil)
  (sSeq (sAsg (gT3 4 5 6) (mV 3))
  (sSeq (sSet 7 (mFn lenSetT (mCons (mLc (mIt (mCons (mFn lenD (mCons (m2 (mV 2) (mC (.int 0)) ixD) mNil)) mNil) ran1) [none, some 2] (gN 0) mYes (mFn tupleD (mCons (mLc (mItems (mV 1)) [none, some 0] (gN 0) mYes (m2 (mV 0) (mV 1) ixD)) mNil))) mNil)))
  (sSeq (sIf (mTor (mTst (m2 (mFn m__law_firsts (mCons (mV 4) mNil)) (mLstRan (mV 7)) neD)) (mTst (m2 (mFn m__law_firsts (mCons (mV 6) mNil)) (mLstRan (mFn lenSetTP (mCons (mV 2) mNil))) neD)))
  (sRet (mC (.bl false)))
  sNil)
  (sSeq (sIf (mTor (mTst (m2 (mFn lenD (mCons (mV 5) mNil)) (mFn lenSetTP (mCons (mV 2) mNil)) neD)) (mTst (m2 (mLc (mItems (mV 5)) [none, some 7] (gN 0) (mTst (m2 (mFn maxd0 (mCons (mV 0) mNil)) (mV 1) geD)) (mV 0)) (mLst mNil) neD)))
  (sRet (mC (.bl false)))
  sNil)
  (sSeq (sIf (mTst (m2 (m2 (mFn m__law_cell (mCons (mV 0) (mCons (mC (.int 0)) mNil))) (mC (.int 2)) modD) (mC (.int 1)) eqD))
  (sRet (mC (.bl true)))
  sNil)
  (sRet (mAnd (m2 (mFn lenSetIT (mCons (m2 (mV 1) (mC (.int 0)) ixD) mNil)) (mV 7) geD) (m2 (mFn lenSetIT (mCons (m2 (mV 1) (mC (.int 2)) ixD) mNil)) (mFn lenD (mCons (mV 5) mNil)) geD)))))))))))))
noncomputable def m_law : List D → R D := runB 8 mb_law
theorem sc_law : FnScope ["_law_script", "_law_loom_here", "_law_cloth_here", "_law_found", "_law_threading", "_law_ties", "_law_treading", "_law_shafts"] ["_law_script"] (defScope s_law) := ⟨rfl, rfl, rfl, by decide +kernel, rfl, by decide +kernel, by decide +kernel⟩
set_option maxHeartbeats 4000000 in
theorem fn_law (p : Pr K mg w aBadLoom) {f : Addr} {fd : FuncData} (D : DefOk K mg "law" s_law ["_law_script"] f fd) : FnOk P w K mg base (CX1 P w) 6 f fd ["_law_script"] (spD K mg w 1 m_law) := by
  obtain ⟨f__law_loom, fd__law_loom, D__law_loom⟩ := p.d__law_loom
  have G__law_loom := fn__law_loom (P := P) (w := w) (base := base) p D__law_loom
  obtain ⟨f__law_woven, fd__law_woven, D__law_woven⟩ := p.d__law_woven
  have G__law_woven := fn__law_woven (P := P) (w := w) (base := base) p D__law_woven
  obtain ⟨f__law_cell, fd__law_cell, D__law_cell⟩ := p.d__law_cell
  have G__law_cell := fn__law_cell (P := P) (w := w) (base := base) p D__law_cell
  obtain ⟨f__law_cloth, fd__law_cloth, D__law_cloth⟩ := p.d__law_cloth
  have G__law_cloth := fn__law_cloth (P := P) (w := w) (base := base) p D__law_cloth
  obtain ⟨f_least_loom, fd_least_loom, D_least_loom⟩ := p.d_least_loom
  have G_least_loom := fn_least_loom (P := P) (w := w) (base := base) p D_least_loom
  obtain ⟨f_checked_loom, fd_checked_loom, D_checked_loom⟩ := p.d_checked_loom
  have G_checked_loom := fn_checked_loom (P := P) (w := w) (base := base) p D_checked_loom
  obtain ⟨f__law_firsts, fd__law_firsts, D__law_firsts⟩ := p.d__law_firsts
  have G__law_firsts := fn__law_firsts (P := P) (w := w) (base := base) p D__law_firsts
  refine fnD (ow := [false, false, false, false, false, false, false, false]) (k := 5) D.F sc_law rfl fun cdv A outer s H E hr => ?_
  have hu := hr.units
  exact (ss_cons (s_set (i := 1) sc_law.nd (e_call G__law_loom (hr.mono (by decide)) D__law_loom.m D__law_loom.F.kp D__law_loom.b (pass1 fun _ _ h => h) (a_d (e_var 0) (a_d e_int a_nil)) (n_cons (n_cons (n_nil)))))
    (ss_cons (s_set (i := 2) sc_law.nd (e_call G__law_woven (hr.mono (by decide)) D__law_woven.m D__law_woven.F.kp D__law_woven.b (pass1 fun _ _ h => h) (a_d (e_var 1) a_nil) (n_cons (n_nil))))
    (ss_cons (s_if (t_cmp (opEq hu) o_eq (bd (e_op op_mod o_mod (bd (e_call G__law_cell (hr.mono (by decide)) D__law_cell.m D__law_cell.F.kp D__law_cell.b (pass1 fun _ _ h => h) (a_d (e_var 0) (a_d e_int a_nil)) (n_cons (n_cons (n_nil))))) (bd e_int))) (bd e_int) (nomark _))
    (ss_one (s_set (i := 2) sc_law.nd (e_call G__law_cloth (hr.mono (by decide)) D__law_cloth.m D__law_cloth.F.kp D__law_cloth.b (pass1 fun _ _ h => h) (a_d (e_var 0) (a_d e_int a_nil)) (n_cons (n_cons (n_nil))))))
    ss_nil)
    (ss_cons (s_set (i := 3) sc_law.nd (e_call G_least_loom (hr.mono (by decide)) D_least_loom.m D_least_loom.F.kp D_least_loom.b (pass1 fun _ _ h => h) (a_d (e_var 2) a_nil) (n_cons (n_nil))))
    (ss_cons (s_if (PW.pt (w_or (t_cmp (opNe hu) o_ne (bd (e_call G_checked_loom (hr.mono (by decide)) D_checked_loom.m D_checked_loom.F.kp D_checked_loom.b (pass1 fun _ _ h => h) (a_d (e_var 3) a_nil) (n_cons (n_nil)))) (bd (e_var 3)) (nomark _)) (w_or1 (t_cmp (opNe hu) o_ne (bd (e_call G__law_woven (hr.mono (by decide)) D__law_woven.m D__law_woven.F.kp D__law_woven.b (pass1 fun _ _ h => h) (a_d (e_var 3) a_nil) (n_cons (n_nil)))) (bd (e_var 2)) (nomark _)))))
    (ss_one (s_ret e_bl))
    ss_nil)
    (ss_cons (s_asg (e_var 3) (g_tup3 (i := 4) (j := 5) (k := 6) rfl sc_law.nd))
    (ss_cons (s_set (i := 7) sc_law.nd (e_lenSetT hu p.b_len p.b_set (a_b (bf (e_lc (N' := ["_law_k", "_law_cloth_here"]) (src := [none, some 2]) (LcOk.of ["_law_script", "_law_loom_here", "_law_cloth_here", "_law_found", "_law_threading", "_law_ties", "_law_treading", "_law_shafts"] (defScope s_law) rfl rfl (by decide +kernel)) (i_ran1 p.b_range (a_b (bd (e_callB callLen o_len p.b_len Wv.bt_len (a_b (bd (e_ix ixAll o_ix (bd (e_var 2)) (bd e_int))) a_nil))) a_nil)) (fun _ _ _ _ => (g_name (i := 0) (show (["_law_k", "_law_cloth_here"] : List Str).Nodup by decide +kernel))) (fun _ _ _ _ => ptl_yes) (fun _ _ _ _ => (e_callTy callTuple o_tuple p.b_tuple Wv.bt_tuple (a_b (bf (e_lc (N' := ["_law_row", "_law_k"]) (src := [none, some 0]) (LcOk.of ["_law_k", "_law_cloth_here"] (relabelS scp_114_26 (defScope s_law)) rfl rfl (by decide +kernel)) (i_seq (e_var 1)) (fun _ _ _ _ => (g_name (i := 0) (show (["_law_row", "_law_k"] : List Str).Nodup by decide +kernel))) (fun _ _ _ _ => ptl_yes) (fun _ _ _ _ => (e_ix ixAll o_ix (bd (e_var 0)) (bd (e_var 1)))) sub_N src_ok)) a_nil))) sub_N src_ok)) a_nil)))
    (ss_cons (s_if (PW.pt (w_or (t_cmp (opNe hu) o_ne (bd (e_call G__law_firsts (hr.mono (by decide)) D__law_firsts.m D__law_firsts.F.kp D__law_firsts.b (pass1 fun _ _ h => h) (a_d (e_var 4) a_nil) (n_cons (n_nil)))) (bf (e_lstRan p.b_list p.b_range (e_var 7))) (nomark _)) (w_or1 (t_cmp (opNe hu) o_ne (bd (e_call G__law_firsts (hr.mono (by decide)) D__law_firsts.m D__law_firsts.F.kp D__law_firsts.b (pass1 fun _ _ h => h) (a_d (e_var 6) a_nil) (n_cons (n_nil)))) (bf (e_lstRan p.b_list p.b_range (e_lenSetTP hu p.b_len p.b_set (a_b (bd (e_var 2)) a_nil)))) (nomark _)))))
    (ss_one (s_ret e_bl))
    ss_nil)
    (ss_cons (s_if (PW.pt (w_or (t_cmp (opNe hu) o_ne (bd (e_callB callLen o_len p.b_len Wv.bt_len (a_b (bd (e_var 5)) a_nil))) (bd (e_lenSetTP hu p.b_len p.b_set (a_b (bd (e_var 2)) a_nil))) (nomark _)) (w_or1 (t_cmp (opNe hu) o_ne (bf (e_lc (N' := ["_law_tie", "_law_shafts"]) (src := [none, some 7]) (LcOk.of ["_law_script", "_law_loom_here", "_law_cloth_here", "_law_found", "_law_threading", "_law_ties", "_law_treading", "_law_shafts"] (defScope s_law) rfl rfl (by decide +kernel)) (i_seq (e_var 5)) (fun _ _ _ _ => (g_name (i := 0) (show (["_law_tie", "_law_shafts"] : List Str).Nodup by decide +kernel))) (fun _ _ _ _ => ptl_one (t_cmp op_ge o_ge (bd (e_maxd p.b_max (a_b (bd (e_var 0)) a_nil))) (bd (e_var 1)) (nomark _))) (fun _ _ _ _ => (e_var 0)) sub_N src_ok)) (bf (e_lst a_nil)) (nomark _)))))
    (ss_one (s_ret e_bl))
    ss_nil)
    (ss_cons (s_if (t_cmp (opEq hu) o_eq (bd (e_op op_mod o_mod (bd (e_call G__law_cell (hr.mono (by decide)) D__law_cell.m D__law_cell.F.kp D__law_cell.b (pass1 fun _ _ h => h) (a_d (e_var 0) (a_d e_int a_nil)) (n_cons (n_cons (n_nil))))) (bd e_int))) (bd e_int) (nomark _))
    (ss_one (s_ret e_bl))
    ss_nil)
    (ss_one (s_ret (e_and (e_cmp op_ge o_ge (bd (e_lenSetIT p.b_len p.b_set (a_b (bd (e_ix ixAll o_ix (bd (e_var 1)) (bd e_int))) a_nil))) (bd (e_var 7)) (nomark _)) (e_one (e_cmp op_ge o_ge (bd (e_lenSetIT p.b_len p.b_set (a_b (bd (e_ix ixAll o_ix (bd (e_var 1)) (bd e_int))) a_nil))) (bd (e_callB callLen o_len p.b_len Wv.bt_len (a_b (bd (e_var 5)) a_nil))) (nomark _))))))))))))))))
end
end DL
namespace DL
open PySem PySem.Spec L2 Wv
local macro_rules | `(tactic| walk_at "evx") => `(tactic| fail "evx")
local macro_rules | `(tactic| walk_at "ev") => `(tactic| repeat' (first
  | with_reducible exact v_c | (with_reducible apply v_var; exact rfl) | with_reducible exact v_nil | with_reducible exact v_noP | with_reducible apply v_2 | with_reducible apply v_fn | with_reducible apply v_cons | with_reducible apply v_tst | with_reducible apply v_tup | with_reducible apply v_lst | with_reducible apply v_inst
  | with_reducible apply v_it | with_reducible apply v_tru | with_reducible apply v_tn | with_reducible apply v_neg | with_reducible apply v_not | with_reducible apply v_items | with_reducible apply v_sl | with_reducible apply v_part
  | with_reducible exact l_eqI _ _ | with_reducible exact l_mulL (by omega) (by omega) | with_reducible exact l_mulR (by omega) (by omega) | with_reducible exact l_mod (by omega) | with_reducible exact l_fdiv (by omega) | with_reducible exact l_ran1 (by omega) (by omega)
  | walk_at "evx" | exact rfl))
theorem d_cell {ns : List Int} {k : Int} (h0 : 0 ≤ k) : m__law_cell [.scr ns, .int k] = .ok (.int (cellM ns k)) := by
  refine x_run ?_
  by_cases h : k < (ns.length : Int)
  · have hk : k.toNat < ns.length := by omega
    have e : atI ns k = some (cellM ns k) := atI_nn h0 (by unfold cellM; rw [List.getD_eq_getElem?_getD, List.getElem?_eq_getElem hk]; rfl)
    refine x_if_t (v_tst (v_eq (v_2 (v_var rfl) (v_fn (v_cons (v_var rfl) v_nil) rfl) rfl) (by rw [decide_eq_true h]))) (x_seqret (v_2 (v_var rfl) (v_var rfl) ?_))
    unfold ixD
    dsimp only
    rw [e]
  · have e : cellM ns k = 0 := by
      unfold cellM
      rw [List.getD_eq_getElem?_getD, List.getElem?_eq_none (by omega)]
      rfl
    rw [e]
    exact x_if_f (v_tst (v_eq (v_2 (v_var rfl) (v_fn (v_cons (v_var rfl) v_nil) rfl) rfl) (by rw [decide_eq_false h]))) (x_nil (x_ret v_c))
theorem d_mix {c p m : Int} (hp : 0 < p) (hm : 0 < m) : m__law_mix [.int c, .int p, .int m] = .ok (.int (mixM c p m)) := by
  refine x_run (x_ret ?_)
  unfold mixM
  walk_at "ev"
local macro_rules | `(tactic| walk_at "evx") => `(tactic| first | with_reducible exact d_mix (by omega) (by omega) | with_reducible exact d_cell (by omega))
theorem d_size {c : Int} : m__law_size [.int c] = .ok (.int (sizeM c)) := by
  refine x_run ?_
  unfold sizeM
  by_cases h : mixM c 9901 8 = 3
  · rw [if_pos h]
    refine x_if_t (v_tst (v_eq (y := .bl true) (by walk_at "ev") (by rw [decide_eq_true h]))) (x_seqret ?_)
    walk_at "ev"
  · rw [if_neg h]
    refine x_if_f (v_tst (v_eq (y := .bl false) (by walk_at "ev") (by rw [decide_eq_false h]))) (x_nil (x_ret ?_))
    walk_at "ev"
end DL
namespace DL
open PySem PySem.Spec L2 Wv
local macro_rules | `(tactic| walk_at "evx") => `(tactic| fail "evx")
local macro_rules | `(tactic| walk_at "ev") => `(tactic| repeat' (first
  | with_reducible exact v_c | (with_reducible apply v_var; exact rfl) | with_reducible exact v_nil | with_reducible exact v_noP | with_reducible apply v_2 | with_reducible apply v_fn | with_reducible apply v_cons | with_reducible apply v_tst | with_reducible apply v_tup | with_reducible apply v_lst | with_reducible apply v_inst
  | with_reducible apply v_it | with_reducible apply v_tru | with_reducible apply v_tn | with_reducible apply v_neg | with_reducible apply v_not | with_reducible apply v_items | with_reducible apply v_sl | with_reducible apply v_part
  | with_reducible exact l_eqI _ _ | with_reducible exact l_mulL (by omega) (by omega) | with_reducible exact l_mulR (by omega) (by omega) | with_reducible exact l_mod (by omega) | with_reducible exact l_fdiv (by omega) | with_reducible exact l_ran1 (by omega) (by omega)
  | walk_at "evx" | exact rfl))
local macro_rules | `(tactic| walk_at "evx") => `(tactic| first | with_reducible exact d_mix (by omega) (by omega) | with_reducible exact d_cell (by omega))
theorem d_cloth {ns : List Int} {k : Int} (hk : 0 ≤ k) : m__law_cloth [.scr ns, .int k] = .ok (clD (clothM ns k)) := by
  have w1 := sizeM_lo (cellM ns k)
  have w2 := sizeM_hi (cellM ns k)
  have w3 := sizeM_lo (cellM ns (k + 1))
  have w4 := sizeM_hi (cellM ns (k + 1))
  refine w_run ?_
  refine w_set (v_fn (v_cons (v_fn (v_cons (v_var rfl) (v_cons (v_var rfl) v_nil)) (d_cell hk)) v_nil) d_size) (w_set (v_fn (v_cons (by walk_at "ev") v_nil) d_size) (w_set (by walk_at "ev") (w_set (v_lst v_nil (by decide)) ?_)))
  refine w_for (fun i ρ => ∃ v6 v7 v8 v9 v10, ρ = [some (.scr ns), some (.int k), some (.int (sizeM (cellM ns k))), some (.int (sizeM (cellM ns (k + 1)))), some (.int (wayM ns k)), some (.lst ((List.range i).map fun r => rowD (rowM ns k (r : Nat)))), v6, v7, v8, v9, v10])
    (v_it (v_cons (v_var rfl) v_nil) (l_ran1 (by omega) (by omega))) ⟨none, none, none, none, none, rfl⟩ ?_ ?_
  · rintro i d ρ hd ⟨v6, v7, v8, v9, v10, rfl⟩
    obtain ⟨hi, rfl⟩ := rangeD_get hd
    refine ⟨_, rfl, w_set (v_lst v_nil (by decide)) ?_⟩
    refine w_for (fun j ρ => ∃ v8 v9 v10, ρ = [some (.scr ns), some (.int k), some (.int (sizeM (cellM ns k))), some (.int (sizeM (cellM ns (k + 1)))), some (.int (wayM ns k)), some (.lst ((List.range i).map fun r => rowD (rowM ns k (r : Nat)))), some (.int (0 + (i : Int))), some (.lst ((List.range j).map fun c => .int (bitM ns k (wayM ns k) (i : Nat) (c : Nat)))), v8, v9, v10])
      (v_it (v_cons (v_var rfl) v_nil) (l_ran1 (by omega) (by omega))) ⟨v8, v9, v10, rfl⟩ ?_ ?_
    · rintro j d ρ hd ⟨v8, v9, v10, rfl⟩
      obtain ⟨hj, rfl⟩ := rangeD_get hd
      have hc := Int.emod_nonneg (3 * (0 + (i : Int)) + (0 + (j : Int))) (show (12 : Int) ≠ 0 by decide)
      have hl : ((List.range j).map fun c => D.int (bitM ns k (wayM ns k) (i : Nat) (c : Nat))).length ≤ 100000 := by
        rw [List.length_map, List.length_range]
        omega
      have fin : ∀ (n : Int) (v9 v10 : Option D), n = bitM ns k (wayM ns k) (i : Nat) (j : Nat) → ∃ ρ2, (Fl.nx [some (.scr ns), some (.int k), some (.int (sizeM (cellM ns k))), some (.int (sizeM (cellM ns (k + 1)))), some (.int (wayM ns k)), some (.lst ((List.range i).map fun r => rowD (rowM ns k (r : Nat)))), some (.int (0 + (i : Int))), some (.lst (((List.range j).map fun c => .int (bitM ns k (wayM ns k) (i : Nat) (c : Nat))) ++ [.int n])), some (.int (0 + (j : Int))), v9, v10] = .nx ρ2 ∨
          Fl.nx [some (.scr ns), some (.int k), some (.int (sizeM (cellM ns k))), some (.int (sizeM (cellM ns (k + 1)))), some (.int (wayM ns k)), some (.lst ((List.range i).map fun r => rowD (rowM ns k (r : Nat)))), some (.int (0 + (i : Int))), some (.lst (((List.range j).map fun c => .int (bitM ns k (wayM ns k) (i : Nat) (c : Nat))) ++ [.int n])), some (.int (0 + (j : Int))), v9, v10] = .ct ρ2) ∧
          ∃ v8 v9 v10, ρ2 = [some (.scr ns), some (.int k), some (.int (sizeM (cellM ns k))), some (.int (sizeM (cellM ns (k + 1)))), some (.int (wayM ns k)), some (.lst ((List.range i).map fun r => rowD (rowM ns k (r : Nat)))), some (.int (0 + (i : Int))), some (.lst ((List.range (j + 1)).map fun c => .int (bitM ns k (wayM ns k) (i : Nat) (c : Nat)))), v8, v9, v10] := fun n v9 v10 hn => by
        refine ⟨_, .inl rfl, ?_⟩
        rw [List.range_succ, List.map_append, hn]
        exact ⟨_, _, _, rfl⟩
      refine ⟨_, rfl, w_set (by walk_at "ev") (w_set (by walk_at "ev") (w_if (by walk_at "ev") (fun h1 => ?_) (fun h1 => ?_)))⟩
      · have h1 := of_decide_eq_true h1
        refine w_set (by walk_at "ev") (w_if (by walk_at "ev") (fun h2 => ?_) (fun h2 => w_nil (w_app1 rfl (v_var rfl) hl (fin _ _ _ (bit1 h1)))))
        have h2 := of_decide_eq_true h2
        omega
      · have h1 := of_decide_eq_false h1
        refine w_nil (w_if (by walk_at "ev") (fun h2 => w_set (by walk_at "ev") (w_app1 rfl (v_var rfl) hl (fin _ _ _ ?_))) (fun h2 => w_nil (w_app1 rfl (v_var rfl) hl (fin _ _ _ (bit0 h1 (of_decide_eq_false h2))))))
        have e := bit2 (ns := ns) (k := k) (r := i) (c := j) (of_decide_eq_true h2)
        simp only [V.int.injEq] at e
        exact e
    · rintro ρ' ⟨v8, v9, v10, rfl⟩
      refine w_app1 rfl (v_fn (v_cons (v_var rfl) v_nil) rfl) ?_ ⟨_, .inl rfl, ?_⟩
      · rw [List.length_map, List.length_range]
        omega
      · rw [rangeD_len, List.range_succ, List.map_append]
        have e3 : rowD (rowM ns k (i : Nat)) = .tup ((List.range (sizeM (cellM ns (k + 1))).toNat).map fun c => .int (bitM ns k (wayM ns k) (i : Nat) (c : Nat))) := by
          unfold rowD rowM
          rw [List.map_map]
          rfl
        rw [List.map_cons, List.map_nil, e3]
        exact ⟨_, _, _, _, _, rfl⟩
  · rintro ρ' ⟨v6, v7, v8, v9, v10, rfl⟩
    refine w_ret (v_fn (v_cons (v_var rfl) v_nil) rfl) ?_
    unfold clD clothM
    rw [List.map_map, rangeD_len]
    rfl
end DL
namespace DL
open PySem PySem.Spec L2 Wv
def numD (b : Int) : D → Bool
  | .int i => decide (0 ≤ i) && decide (i < b)
  | _ => false
def itemsD : D → List D
  | .tup l => l
  | _ => []
theorem fit_thing {n : Nat} {d : D} (h : fit n d = true) : tyS d ≠ "?" := by
  cases d with
  | dct _ _ => cases n <;> cases h
  | exc _ => cases n <;> cases h
  | scr _ => cases n <;> cases h
  | _ => simp [tyS]
theorem fit_items {n : Nat} {d : D} (h : fit (n + 1) d = true) : ∀ x ∈ itemsD d, fit n x = true := by
  cases d with
  | tup l => exact fun x hx => List.all_eq_true.mp h x hx
  | _ => exact fun x hx => nomatch hx
theorem d_number {d : D} {b : Int} (h : tyS d ≠ "?") : m_is_number_below [d, .int b] = .ok (.bl (numD b d)) := by
  cases d with
  | int i => exact x_run (x_ret (v_and_t (v_inst (v_var rfl) rfl) (v_and_t (v_notb (v_inst (v_var rfl) rfl) rfl) (v_chain v_c (v_var rfl) rfl (fun _ => v_var rfl) (fun _ => rfl)))))
  | bl x => exact x_run (x_ret (v_and_t (v_inst (v_var rfl) rfl) (v_and_f (v_notb (v_inst (v_var rfl) rfl) rfl))))
  | non => exact x_run (x_ret (v_and_f (v_inst (v_var rfl) rfl)))
  | str x => exact x_run (x_ret (v_and_f (v_inst (v_var rfl) rfl)))
  | tup x => exact x_run (x_ret (v_and_f (v_inst (v_var rfl) rfl)))
  | lst x => exact x_run (x_ret (v_and_f (v_inst (v_var rfl) rfl)))
  | dct _ _ => exact absurd rfl h
  | exc _ => exact absurd rfl h
  | scr _ => exact absurd rfl h
end DL
namespace DL
open PySem PySem.Spec L2 Wv
def inBD : D → Bool
  | .tup l => decide (1 ≤ l.length) && decide (l.length ≤ 16)
  | _ => false
def rowB (b : Int) (d : D) : Bool := inBD d && (itemsD d).all (numD b)
theorem d_numbers {ds : List D} {b : Int} (h : ∀ d ∈ ds, tyS d ≠ "?") (hl : ds.length ≤ 100000) : m_are_numbers_below [.tup ds, .int b] = .ok (.bl (ds.all (numD b))) :=
  x_run (x_ret (v_fn (v_cons (v_lc (v_items (v_var rfl) rfl) hl (lcD_map (ρ1 := fun d => [some d, some (.int b)]) (f := fun d => .bl (numD b d)) fun d hd => ⟨rfl, rfl, v_fn (v_cons (v_var rfl) (v_cons (v_var rfl) v_nil)) (d_number (h d hd))⟩)) v_nil) (l_all (numD b) ds)))
theorem d_inb {d : D} (h : tyS d ≠ "?") : m_is_tuple_in_bounds [d] = .ok (.bl (inBD d)) := by
  cases d with
  | tup l =>
    refine x_run (x_ret (v_and_t (v_inst (v_var rfl) rfl) (v_eq (v_chain v_c (v_fn (v_cons (v_var rfl) v_nil) rfl) rfl (fun _ => v_c) (fun _ => rfl)) ?_)))
    unfold inBD
    congr 1
    rw [show decide ((1 : Int) ≤ (l.length : Int)) = decide (1 ≤ l.length) from decide_eq_decide.mpr (by omega), show decide ((l.length : Int) ≤ 16) = decide (l.length ≤ 16) from decide_eq_decide.mpr (by omega)]
  | int i => exact x_run (x_ret (v_and_f (v_inst (v_var rfl) rfl)))
  | bl x => exact x_run (x_ret (v_and_f (v_inst (v_var rfl) rfl)))
  | non => exact x_run (x_ret (v_and_f (v_inst (v_var rfl) rfl)))
  | str x => exact x_run (x_ret (v_and_f (v_inst (v_var rfl) rfl)))
  | lst x => exact x_run (x_ret (v_and_f (v_inst (v_var rfl) rfl)))
  | dct _ _ => exact absurd rfl h
  | exc _ => exact absurd rfl h
  | scr _ => exact absurd rfl h
theorem inBD_is {d : D} (h : inBD d = true) : ∃ l, d = .tup l ∧ 1 ≤ l.length ∧ l.length ≤ 16 := by
  cases d with
  | tup l =>
    unfold inBD at h
    dsimp only at h
    rw [Bool.and_eq_true] at h
    exact ⟨l, rfl, of_decide_eq_true h.1, of_decide_eq_true h.2⟩
  | _ => cases h
theorem d_row {n : Nat} {d : D} {b : Int} (h : fit (n + 1) d = true) : m_is_row_of_numbers_below [d, .int b] = .ok (.bl (rowB b d)) := by
  unfold rowB
  refine x_run (x_ret (v_and (v_fn (v_cons (v_var rfl) v_nil) (d_inb (fit_thing h))) fun hb => ?_))
  obtain ⟨l, rfl, h1, h2⟩ := inBD_is hb
  exact v_fn (v_cons (v_var rfl) (v_cons (v_var rfl) v_nil)) (d_numbers (fun x hx => fit_thing (fit_items h x hx)) (by omega))
end DL
namespace DL
open PySem PySem.Spec L2 Wv
theorem rowM_ne (ns : List Int) (k r : Int) : (rowM ns k r).length = (sizeM (cellM ns (k + 1))).toNat := by
  unfold rowM
  rw [List.length_map, List.length_range]
theorem clothM_len (ns : List Int) (k : Int) : (clothM ns k).length = (sizeM (cellM ns k)).toNat := by
  unfold clothM
  rw [List.length_map, List.length_range]
structure Cloth (rows : List (List Int)) (n : Nat) : Prop where
  r1 : 1 ≤ rows.length
  r16 : rows.length ≤ 16
  n1 : 1 ≤ n
  n16 : n ≤ 16
  all : ∀ r ∈ rows, r.length = n
  bit : ∀ r ∈ rows, ∀ b ∈ r, b = 0 ∨ b = 1
theorem clothM_ok (ns : List Int) (k : Int) : Cloth (clothM ns k) (sizeM (cellM ns (k + 1))).toNat := by
  have w1 := sizeM_lo (cellM ns k)
  have w2 := sizeM_hi (cellM ns k)
  have w3 := sizeM_lo (cellM ns (k + 1))
  have w4 := sizeM_hi (cellM ns (k + 1))
  refine ⟨by rw [clothM_len]; omega, by rw [clothM_len]; omega, by omega, by omega, fun r hr => ?_, fun r hr b hb => ?_⟩
  · unfold clothM at hr
    obtain ⟨i, _, rfl⟩ := List.mem_map.mp hr
    exact rowM_ne ns k i
  · unfold clothM at hr
    obtain ⟨i, _, rfl⟩ := List.mem_map.mp hr
    unfold rowM at hb
    obtain ⟨j, _, rfl⟩ := List.mem_map.mp hb
    exact bitM_bit ns k _ i j
theorem Cloth.first {rows : List (List Int)} {n : Nat} (h : Cloth rows n) : ∃ r0 rest, rows = r0 :: rest ∧ r0.length = n := by
  cases rows with
  | nil => exact absurd h.r1 (by decide)
  | cons r0 rest => exact ⟨r0, rest, rfl, h.all r0 List.mem_cons_self⟩
structure Rect (rows : List (List Int)) (n : Nat) : Prop where
  r1 : 1 ≤ rows.length
  r16 : rows.length ≤ 16
  n1 : 1 ≤ n
  n16 : n ≤ 16
  all : ∀ r ∈ rows, r.length = n
theorem Cloth.rect {rows : List (List Int)} {n : Nat} (h : Cloth rows n) : Rect rows n := ⟨h.r1, h.r16, h.n1, h.n16, h.all⟩
theorem Rect.first {rows : List (List Int)} {n : Nat} (h : Rect rows n) : ∃ r0 rest, rows = r0 :: rest ∧ r0.length = n := by
  cases rows with
  | nil => exact absurd h.r1 (by decide)
  | cons r0 rest => exact ⟨r0, rest, rfl, h.all r0 List.mem_cons_self⟩
theorem v_wideR {rows : List (List Int)} {n i : Nat} {ρ : Ev} (h : Rect rows n) (hi : ρ[i]? = some (some (clD rows))) : mFn lenD (mCons (m2 (mV i) (mC (.int 0)) ixD) mNil) ρ = .ok (.int n) := by
  obtain ⟨r0, rest, rfl, hl⟩ := h.first
  refine v_fn (v_cons (v_2 (v_var hi) v_c l_ix0) v_nil) ?_
  show R.ok (D.int ((r0.map D.int).length : Nat)) = _
  rw [List.length_map, hl]
section
variable {rows : List (List Int)}
theorem bit_at {r : List Int} {k : Int} (h1 : 0 ≤ k) (h2 : k < r.length) : ixD (rowD r) (.int k) = .ok (.int (r.getD k.toNat 0)) := by
  have hk : k.toNat < r.length := by omega
  refine l_ixT (atI_nn h1 ?_)
  rw [List.getElem?_map, List.getElem?_eq_getElem hk, List.getD_eq_getElem?_getD, List.getElem?_eq_getElem hk]
  rfl
end
end DL
namespace DL
open PySem PySem.Spec L2 Wv
abbrev lsD (W : List Int) : D := .lst (W.map D.int)
theorem fit_ls (W : List Int) : fit 1 (lsD W) = true := fit_all (fit_ints W)
theorem lcD_mapE {A : Type} {ea : A → D} {h : A → D} {g : D → Ev → R Ev} {t : Ev → R Bool} {e : Ev → R D} {ρ : Ev} : ∀ {l : List A}, (∀ a ∈ l, ∃ ρ1, g (ea a) ρ = .ok ρ1 ∧ t ρ1 = .ok true ∧ e ρ1 = .ok (h a)) → lcD g t e ρ (l.map ea) = .ok (l.map h)
  | [], _ => rfl
  | a :: l, q => by
    obtain ⟨ρ1, h1, h2, h3⟩ := q a List.mem_cons_self
    have ih := lcD_mapE (l := l) fun x hx => q x (List.mem_cons_of_mem _ hx)
    rw [List.map_cons, lcD, h1, R.ok_bind, h2]
    show (if true = true then (nr (e ρ1)).bind fun x => (lcD g t e ρ (l.map ea)).bind fun xs => .ok (x :: xs) else lcD g t e ρ (l.map ea)) = _
    rw [if_pos rfl, h3, ih]
    rfl
theorem lcD_filterE {A : Type} {ea : A → D} {q : A → Bool} {h : A → D} {g : D → Ev → R Ev} {t : Ev → R Bool} {e : Ev → R D} {ρ : Ev} : ∀ {l : List A}, (∀ a ∈ l, ∃ ρ1, g (ea a) ρ = .ok ρ1 ∧ t ρ1 = .ok (q a) ∧ (q a = true → e ρ1 = .ok (h a))) → lcD g t e ρ (l.map ea) = .ok ((l.filter q).map h)
  | [], _ => rfl
  | a :: l, w => by
    obtain ⟨ρ1, h1, h2, h3⟩ := w a List.mem_cons_self
    have ih := lcD_filterE (l := l) fun x hx => w x (List.mem_cons_of_mem _ hx)
    rw [List.map_cons, lcD, h1, R.ok_bind, h2]
    show (if q a = true then (nr (e ρ1)).bind fun x => (lcD g t e ρ (l.map ea)).bind fun xs => .ok (x :: xs) else lcD g t e ρ (l.map ea)) = _
    cases hq : q a with
    | true =>
      rw [if_pos rfl, h3 hq, ih, List.filter_cons, hq, if_pos rfl]
      rfl
    | false => rw [if_neg Bool.false_ne_true, ih, List.filter_cons, hq, if_neg Bool.false_ne_true]
end DL
namespace DL
open PySem PySem.Spec L2
section
variable {ρ : Ev} {i j : Nat} {ks vs : List D} {d v x : D} {mk mv : Ev → R D} {k : Ev → R Fl} {P : Fl → Prop}
theorem x_put (hi : ρ[i]? = some (some (.dct ks vs))) (h1 : mk ρ = .ok d) (h2 : mv ρ = .ok v) (h3 : okKey d = true) (hl : ks.length ≤ 100000) : sPut i mk mv ρ = .ok (.nx (ρ.set i (some (putD d v ks vs)))) := by
  unfold sPut
  rw [hi]
  dsimp only
  rw [h2, R.ok_bind, h1, R.ok_bind, if_pos ⟨h3, hl⟩]
theorem w_put1 (hi : ρ[i]? = some (some (.dct ks vs))) (h1 : mk ρ = .ok d) (h2 : mv ρ = .ok v) (h3 : okKey d = true) (hl : ks.length ≤ 100000) (h : P (.nx (ρ.set i (some (putD d v ks vs))))) : Go (sPut i mk mv ρ) P := ⟨_, x_put hi h1 h2 h3 hl, h⟩
theorem l_inK {neg : Bool} (h : okKey d = true) : inK neg d (.dct ks vs) = .ok (.bl (if neg = true then !(ks.any fun y => eqvD y d) else ks.any fun y => eqvD y d)) := if_pos h
theorem l_ixK {r : D} (h : okKey d = true) (h2 : getK d ks vs = some r) : ixK (.dct ks vs) d = .ok r := by
  show (if okKey d = true then (match getK d ks vs with | some r => R.ok r | none => .bad) else .bad) = _
  rw [if_pos h, h2]
end
section
variable {A B : Type} [DecidableEq A] {ea : A → D} {eb : B → D}
theorem any_enc (he : ∀ x y, eqvD (ea x) (ea y) = decide (x = y)) (a : A) : ∀ l : List A, ((l.map ea).any fun y => eqvD y (ea a)) = decide (a ∈ l)
  | [] => rfl
  | x :: l => by
    rw [List.map_cons, List.any_cons, he, any_enc he a l, ← Bool.decide_or]
    refine decide_eq_decide.mpr ?_
    rw [List.mem_cons]
    exact or_congr ⟨fun e => e.symm, fun e => e.symm⟩ Iff.rfl
theorem getK_enc (he : ∀ x y, eqvD (ea x) (ea y) = decide (x = y)) (a : A) : ∀ W : List (A × B), getK (ea a) (W.map fun p => ea p.1) (W.map fun p => eb p.2) = (W.find? fun p => decide (p.1 = a)).map fun p => eb p.2
  | [] => rfl
  | p :: W => by
    rw [List.map_cons, List.map_cons, getK, he, List.find?_cons]
    cases decide (p.1 = a) with
    | true => rfl
    | false => exact getK_enc he a W
theorem find_mem {W : List (A × B)} {a : A} (h : a ∈ W.map (·.1)) : ∃ p ∈ W, p.1 = a ∧ (W.find? fun p => decide (p.1 = a)) = some p := by
  obtain ⟨q, hq, e⟩ := List.mem_map.mp h
  cases hf : W.find? fun p => decide (p.1 = a) with
  | none =>
    have := List.find?_eq_none.mp hf q hq
    rw [decide_eq_true e] at this
    exact absurd rfl this
  | some p => exact ⟨p, List.mem_of_find?_eq_some hf, by simpa using List.find?_some hf, rfl⟩
theorem put_enc {dv : D} (he : ∀ x y, eqvD (ea x) (ea y) = decide (x = y)) {a : A} {W : List (A × B)} (h : a ∉ W.map (·.1)) : putD (ea a) dv (W.map fun p => ea p.1) (W.map fun p => eb p.2) = .dct (W.map (fun p => ea p.1) ++ [ea a]) (W.map (fun p => eb p.2) ++ [dv]) := by
  unfold putD
  have e : ((W.map fun p => ea p.1).any fun y => eqvD y (ea a)) = false := by
    have := any_enc he a (W.map (·.1))
    rw [List.map_map] at this
    rw [show (W.map fun p => ea p.1) = W.map (ea ∘ fun x => x.1) from rfl, this]
    exact decide_eq_false h
  rw [e, if_neg Bool.false_ne_true]
end
theorem nodup_len {A : Type} [DecidableEq A] : ∀ {l m : List A}, l.Nodup → (∀ x ∈ l, x ∈ m) → l.length ≤ m.length
  | [], _, _, _ => Nat.zero_le _
  | x :: l, m, hn, hs => by
    rw [List.nodup_cons] at hn
    have hx := hs x List.mem_cons_self
    have ih := nodup_len (l := l) (m := m.erase x) hn.2 fun y hy => (List.mem_erase_of_ne (fun e => hn.1 (by rw [← e]; exact hy))).mpr (hs y (List.mem_cons_of_mem _ hy))
    rw [List.length_erase_of_mem hx] at ih
    have : 0 < m.length := List.length_pos_of_mem hx
    rw [List.length_cons]
    omega
end DL
namespace DL
open PySem PySem.Spec L2 Wv
theorem eqv_int (i j : Int) : eqvD (.int i) (.int j) = decide (i = j) := by
  unfold eqvD
  simp only [toP, PyData.eqv]
  by_cases h : i = j
  · rw [decide_eq_true h, h]
    exact beq_self_eq_true j
  · rw [decide_eq_false h]
    exact beq_eq_false_iff_ne.mpr h
theorem toPs_int : ∀ r : List Int, toPs (r.map D.int) = r.map PyData.int
  | [] => by rw [List.map_nil, toPs, List.map_nil]
  | x :: r => by rw [List.map_cons, toPs, toP, toPs_int r, List.map_cons]
theorem toPs_rows : ∀ rows : List (List Int), toPs (rows.map rowD) = rowsD rows
  | [] => by
    rw [List.map_nil, toPs]
    rfl
  | r :: rows => by
    have ih := toPs_rows rows
    unfold rowsD at ih ⊢
    rw [List.map_cons, toPs, List.map_cons, ih]
    unfold rowD
    rw [toP, toPs_int]
end DL
namespace DL
open PySem PySem.Spec L2 Wv
local macro_rules | `(tactic| walk_at "evx") => `(tactic| fail "evx")
local macro_rules | `(tactic| walk_at "ev") => `(tactic| repeat' (first
  | with_reducible exact v_c | (with_reducible apply v_var; exact rfl) | with_reducible exact v_nil | with_reducible exact v_noP | with_reducible apply v_2 | with_reducible apply v_fn | with_reducible apply v_cons | with_reducible apply v_tst | with_reducible apply v_tup | with_reducible apply v_lst | with_reducible apply v_inst
  | with_reducible apply v_it | with_reducible apply v_tru | with_reducible apply v_tn | with_reducible apply v_neg | with_reducible apply v_not | with_reducible apply v_items | with_reducible apply v_sl | with_reducible apply v_part
  | with_reducible exact l_eqI _ _ | with_reducible exact l_mulL (by omega) (by omega) | with_reducible exact l_mulR (by omega) (by omega) | with_reducible exact l_mod (by omega) | with_reducible exact l_fdiv (by omega) | with_reducible exact l_ran1 (by omega) (by omega)
  | walk_at "evx" | exact rfl))
local macro_rules | `(tactic| walk_at "evx") => `(tactic| first | with_reducible exact d_mix (by omega) (by omega) | with_reducible exact d_cell (by omega) | with_reducible exact l_mod (by decide) | exact Nat.le_of_ble_eq_true rfl)
def asI : D → Int
  | .int i => i
  | _ => 0
def ltP : D → Bool
  | .tup [.int a, .int b] => decide (a < b)
  | _ => false
def incB (l : List D) : Bool := (pairsD l (cutL l (some 1) none)).all ltP
def tieB : D → Bool
  | .tup l => l.all (numD 16) && incB l
  | _ => false
theorem pairs_le : ∀ {xs ys : List D}, (pairsD xs ys).length ≤ xs.length
  | [], ys => by simp [pairsD]
  | x :: xs, [] => by simp [pairsD]
  | x :: xs, y :: ys => by
    rw [pairsD, List.length_cons, List.length_cons]
    exact Nat.succ_le_succ pairs_le
theorem num_int {b : Int} {d : D} (h : numD b d = true) : ∃ i, d = .int i := by
  cases d with
  | int i => exact ⟨i, rfl⟩
  | _ => cases h
theorem mem_cut {α : Type} {l : List α} {lo hi : Option Int} {x : α} (h : x ∈ cutL l lo hi) : x ∈ l := by
  unfold cutL at h
  exact List.mem_of_mem_drop (List.mem_of_mem_take h)
theorem d_tie {n : Nat} {d : D} (h : fit (n + 1) d = true) (hl : (itemsD d).length ≤ 100000) : m_is_tie [d] = .ok (.bl (tieB d)) := by
  have go : isTupD d = .ok (.bl false) → tieB d = false → m_is_tie [d] = .ok (.bl (tieB d)) := fun h1 h2 => by
    refine w_run (w_if (b := true) (v_eqT (v_tor (b := true) (c := true) (v_eqT (v_tn (v_tru (v_inst (v_var rfl) h1) rfl)) rfl) (fun z => by cases z)) rfl) (fun _ => w_seqret v_c (by rw [h2])) (fun z => by cases z))
  cases d with
  | tup l =>
    refine w_run (w_if (v_tor (v_tn (v_tru (v_inst (v_var rfl) rfl) rfl)) fun _ => v_tn (v_tru (v_fn (v_cons (v_var rfl) (v_cons v_c v_nil)) (d_numbers (fun x hx => fit_thing (fit_items h x hx)) hl)) rfl)) (fun hb => ?_) fun hb => w_nil ?_)
    · refine w_seqret v_c ?_
      unfold tieB
      dsimp only
      rw [show l.all (numD 16) = false by simpa using hb, Bool.false_and]
    · have hb' : l.all (numD 16) = true := by simpa using hb
      have hall := List.all_eq_true.mp hb'
      refine w_ret (v_fn (v_cons (v_lc (v_it (v_cons (v_var rfl) (v_cons (v_sl (v_var rfl) (v_part v_c) v_noP rfl) v_nil)) rfl) (Nat.le_trans pairs_le hl) (lcD_map (ρ1 := fun d => [some ((itemsD d).getD 0 .non), some ((itemsD d).getD 1 .non)]) (f := fun d => .bl (ltP d)) fun p hp => ?_)) v_nil) (l_all ltP _)) ?_
      · obtain ⟨i, hi⟩ := List.mem_iff_getElem?.mp hp
        obtain ⟨x, y, hx, hy, rfl⟩ := pairsD_at hi
        obtain ⟨a, rfl⟩ := num_int (hall x (List.mem_of_getElem? hx))
        obtain ⟨b, rfl⟩ := num_int (hall y (mem_cut (List.mem_of_getElem? hy)))
        exact ⟨rfl, rfl, v_2 (v_var rfl) (v_var rfl) rfl⟩
      · unfold tieB incB
        dsimp only
        rw [hb', Bool.true_and]
  | int i => exact go rfl rfl
  | bl x => exact go rfl rfl
  | non => exact go rfl rfl
  | str x => exact go rfl rfl
  | lst x => exact go rfl rfl
  | dct _ _ => exact absurd rfl (fit_thing h)
  | exc _ => exact absurd rfl (fit_thing h)
  | scr _ => exact absurd rfl (fit_thing h)
def loomB : D → Bool
  | .tup [a, b, c] => (rowB 16 a && inBD b) && ((itemsD b).all tieB && rowB ((itemsD b).length : Nat) c)
  | _ => false
def Short (d : D) : Prop := ∀ a b c, d = .tup [a, b, c] → ∀ t ∈ itemsD b, (itemsD t).length ≤ 100000
theorem d_isloom {n : Nat} {d : D} (h : fit (n + 3) d = true) (hs : Short d) : m_is_loom [d] = .ok (.bl (loomB d)) := by
  have go : isTupD d = .ok (.bl false) → loomB d = false → m_is_loom [d] = .ok (.bl (loomB d)) := fun h1 h2 => by
    refine w_run (w_if (b := true) (v_eqT (v_tor (b := true) (c := true) (v_eqT (v_tn (v_tru (v_inst (v_var rfl) h1) rfl)) rfl) (fun z => by cases z)) rfl) (fun _ => w_seqret v_c (by rw [h2])) (fun z => by cases z))
  cases d with
  | tup l =>
    refine w_run (w_if (v_tor (v_tn (v_tru (v_inst (v_var rfl) rfl) rfl)) fun _ => v_tst (v_2 (v_fn (v_cons (v_var rfl) v_nil) rfl) v_c (l_neI _ _))) (fun hb => ?_) fun hb => w_nil ?_)
    · refine w_seqret v_c ?_
      have hn : ¬ l.length = 3 := by
        intro z
        rw [z] at hb
        exact absurd hb (by decide)
      have e : loomB (.tup l) = false := by
        unfold loomB
        split
        · rename_i z
          cases z
          exact absurd rfl hn
        · rfl
      rw [e]
    · have hn : l.length = 3 := by
        have z : (!decide ((l.length : Int) = 3)) = false := hb
        rw [Bool.not_eq_false'] at z
        have := of_decide_eq_true z
        omega
      match l, hn with
      | [a, b, c], _ =>
        have fa := fit_items h a (by simp [itemsD])
        have fb := fit_items h b (by simp [itemsD])
        have fc := fit_items h c (by simp [itemsD])
        refine w_set (v_2 (v_var rfl) v_c (l_ixT (atI_nat (j := 0) rfl))) (w_set (v_2 (v_var rfl) v_c (l_ixT (atI_nat (j := 1) rfl))) (w_set (v_2 (v_var rfl) v_c (l_ixT (atI_nat (j := 2) rfl))) ?_))
        refine w_if (v_tor (v_tn (v_tru (v_fn (v_cons (v_var rfl) (v_cons v_c v_nil)) (d_row (n := n + 1) fa)) rfl)) fun _ => v_tn (v_tru (v_fn (v_cons (v_var rfl) v_nil) (d_inb (fit_thing fb))) rfl)) (fun hc => ?_) fun hc => w_nil ?_
        · refine w_seqret v_c ?_
          have e : (rowB 16 a && inBD b) = false := by
            revert hc
            cases rowB 16 a <;> cases inBD b <;> simp
          unfold loomB
          dsimp only
          rw [e, Bool.false_and]
        · have e1 : rowB 16 a = true := by
            revert hc
            cases rowB 16 a <;> simp
          have e2 : inBD b = true := by
            revert hc
            cases inBD b <;> simp
          obtain ⟨lb, rfl, q1, q2⟩ := inBD_is e2
          refine w_ret (v_and (v_fn (v_cons (v_lc (v_items (v_var rfl) rfl) (by omega) (lcD_map (ρ1 := fun t => [some t]) (f := fun t => .bl (tieB t)) fun t ht => ⟨rfl, rfl, v_fn (v_cons (v_var rfl) v_nil) (d_tie (n := n) (fit_items fb t ht) (hs _ _ _ rfl t ht))⟩)) v_nil) (l_all tieB lb)) fun _ => v_fn (v_cons (v_var rfl) (v_cons (v_fn (v_cons (v_var rfl) v_nil) rfl) v_nil)) (d_row (n := n + 1) fc)) ?_
          unfold loomB
          dsimp only
          rw [e1, e2, Bool.true_and, Bool.true_and]
          rfl
  | int i => exact go rfl rfl
  | bl x => exact go rfl rfl
  | non => exact go rfl rfl
  | str x => exact go rfl rfl
  | lst x => exact go rfl rfl
  | dct _ _ => exact absurd rfl (fit_thing h)
  | exc _ => exact absurd rfl (fit_thing h)
  | scr _ => exact absurd rfl (fit_thing h)
theorem d_chk {n : Nat} {d : D} (h : fit (n + 3) d = true) (hs : Short d) (hc : loomB d = true) : m_checked_loom [d] = .ok d := by
  refine w_run (w_if (v_tn (v_tru (v_fn (v_cons (v_var rfl) v_nil) (d_isloom h hs)) rfl)) (fun hb => ?_) fun hb => w_nil (w_ret (v_var rfl) rfl))
  rw [hc] at hb
  cases hb
end DL
namespace DL
open PySem PySem.Spec L2 Wv
local macro_rules | `(tactic| walk_at "evx") => `(tactic| fail "evx")
local macro_rules | `(tactic| walk_at "ev") => `(tactic| repeat' (first
  | with_reducible exact v_c | (with_reducible apply v_var; exact rfl) | with_reducible exact v_nil | with_reducible exact v_noP | with_reducible apply v_2 | with_reducible apply v_fn | with_reducible apply v_cons | with_reducible apply v_tst | with_reducible apply v_tup | with_reducible apply v_lst | with_reducible apply v_inst
  | with_reducible apply v_it | with_reducible apply v_tru | with_reducible apply v_tn | with_reducible apply v_neg | with_reducible apply v_not | with_reducible apply v_items | with_reducible apply v_sl | with_reducible apply v_part
  | with_reducible exact l_eqI _ _ | with_reducible exact l_mulL (by omega) (by omega) | with_reducible exact l_mulR (by omega) (by omega) | with_reducible exact l_mod (by omega) | with_reducible exact l_fdiv (by omega) | with_reducible exact l_ran1 (by omega) (by omega)
  | walk_at "evx" | exact rfl))
local macro_rules | `(tactic| walk_at "evx") => `(tactic| first | with_reducible exact d_mix (by omega) (by omega) | with_reducible exact d_cell (by omega) | with_reducible exact d_size | with_reducible exact l_mod (by decide) | exact Nat.le_of_ble_eq_true rfl)
def loomD (thr : List Int) (ties : List (List Int)) (trd : List Int) : D := .tup [rowD thr, clD ties, rowD trd]
structure Loom (thr : List Int) (ties : List (List Int)) (trd : List Int) : Prop where
  a1 : 1 ≤ thr.length
  a16 : thr.length ≤ 16
  aN : ∀ x ∈ thr, 0 ≤ x ∧ x < 16
  b1 : 1 ≤ ties.length
  b16 : ties.length ≤ 16
  bN : ∀ t ∈ ties, (∀ x ∈ t, 0 ≤ x ∧ x < 16) ∧ t.Pairwise (· < ·) ∧ t.length ≤ 16
  c1 : 1 ≤ trd.length
  c16 : trd.length ≤ 16
  cN : ∀ x ∈ trd, 0 ≤ x ∧ x < (ties.length : Int)
theorem inc_of : ∀ (l : List Int) (x : Int), (x :: l).Pairwise (· < ·) → (pairsD ((x :: l).map D.int) (l.map D.int)).all ltP = true
  | [], x, _ => rfl
  | y :: l, x, h => by
    have h1 : x < y := (List.pairwise_cons.mp h).1 y List.mem_cons_self
    have ih := inc_of l y (List.pairwise_cons.mp h).2
    show (pairsD (.int x :: (y :: l).map D.int) (.int y :: l.map D.int)).all ltP = true
    rw [pairsD, List.all_cons, ih, Bool.and_true]
    exact decide_eq_true h1
theorem tie_is {t : List Int} (h1 : ∀ x ∈ t, 0 ≤ x ∧ x < 16) (h2 : t.Pairwise (· < ·)) : tieB (rowD t) = true := by
  unfold tieB rowD incB
  dsimp only
  rw [Bool.and_eq_true]
  refine ⟨List.all_eq_true.mpr fun x hx => ?_, ?_⟩
  · obtain ⟨i, hi, rfl⟩ := List.mem_map.mp hx
    obtain ⟨z1, z2⟩ := h1 i hi
    show (decide (0 ≤ i) && decide (i < 16)) = true
    rw [decide_eq_true z1, decide_eq_true z2]
    rfl
  · cases t with
    | nil => rfl
    | cons x l =>
      rw [cut_drop _ (by decide) (by rw [List.length_map, List.length_cons]; omega)]
      exact inc_of l x h2
theorem row_is {l : List Int} {b : Int} (h1 : 1 ≤ l.length) (h16 : l.length ≤ 16) (h : ∀ x ∈ l, 0 ≤ x ∧ x < b) : rowB b (rowD l) = true := by
  unfold rowB
  rw [Bool.and_eq_true]
  refine ⟨?_, List.all_eq_true.mpr fun x hx => ?_⟩
  · show (decide (1 ≤ (l.map D.int).length) && decide ((l.map D.int).length ≤ 16)) = true
    rw [List.length_map, decide_eq_true h1, decide_eq_true h16]
    rfl
  · obtain ⟨i, hi, rfl⟩ := List.mem_map.mp (show x ∈ l.map D.int from hx)
    obtain ⟨z1, z2⟩ := h i hi
    show (decide (0 ≤ i) && decide (i < b)) = true
    rw [decide_eq_true z1, decide_eq_true z2]
    rfl
section
variable {thr : List Int} {ties : List (List Int)} {trd : List Int}
theorem itemsCl (ties : List (List Int)) : itemsD (clD ties) = ties.map rowD := rfl
theorem Loom.is (h : Loom thr ties trd) : loomB (loomD thr ties trd) = true := by
  have b1 := h.b1
  have b16 := h.b16
  unfold loomB loomD
  dsimp only
  rw [row_is h.a1 h.a16 h.aN, itemsCl, List.length_map, row_is h.c1 h.c16 h.cN]
  have e1 : inBD (clD ties) = true := by
    show (decide (1 ≤ (ties.map rowD).length) && decide ((ties.map rowD).length ≤ 16)) = true
    rw [List.length_map, decide_eq_true h.b1, decide_eq_true h.b16]
    rfl
  have e2 : (ties.map rowD).all tieB = true := List.all_eq_true.mpr fun x hx => by
    obtain ⟨t, ht, rfl⟩ := List.mem_map.mp hx
    obtain ⟨z1, z2, _⟩ := h.bN t ht
    exact tie_is z1 z2
  rw [e1, e2]
  rfl
theorem fit_loom (thr : List Int) (ties : List (List Int)) (trd : List Int) : fit 3 (loomD thr ties trd) = true := fit_all fun x hx => by
  simp only [List.mem_cons, List.not_mem_nil, or_false] at hx
  rcases hx with rfl | rfl | rfl
  · exact fit_mono (fit_row _) (by decide)
  · exact fit_cl _
  · exact fit_mono (fit_row _) (by decide)
theorem Loom.tl (h : Loom thr ties trd) : ∀ t ∈ itemsD (clD ties), (itemsD t).length ≤ 100000 := fun t ht => by
  obtain ⟨r, hr, rfl⟩ := List.mem_map.mp (show t ∈ ties.map rowD from ht)
  have := (h.bN r hr).2.2
  show (r.map D.int).length ≤ 100000
  rw [List.length_map]
  omega
theorem Loom.short (h : Loom thr ties trd) : Short (loomD thr ties trd) := fun a b c e => by
  cases e
  exact h.tl
def litB (s : Int) (t : List Int) : Bool := (t.map D.int).any fun y => eqvD y (.int s)
def litI (s : Int) (t : List Int) : Int := if litB s t = true then 1 else 0
theorem l_in (s : Int) (t : List Int) : inQ false (.int s) (rowD t) = .ok (.bl (litB s t)) := l_inT rfl (fit_mono (fit_row t) (by decide))
def wovD (thr : List Int) (ties : List (List Int)) (d : D) : D := rowD (thr.map fun s => litI s (ties.getD (asI d).toNat []))
theorem tie_at (h : Loom thr ties trd) {k : Int} (hk : k ∈ trd) : atI (ties.map rowD) k = some (rowD (ties.getD k.toNat [])) := by
  obtain ⟨k0, k1⟩ := h.cN k hk
  have hk' : k.toNat < ties.length := by omega
  refine atI_nn k0 ?_
  rw [List.getElem?_map, List.getElem?_eq_getElem hk', List.getD_eq_getElem?_getD, List.getElem?_eq_getElem hk']
  rfl
def clothD (thr : List Int) (ties : List (List Int)) (trd : List Int) : D := .tup ((trd.map D.int).map (wovD thr ties))
theorem d_lwoven (h : Loom thr ties trd) : m__law_woven [loomD thr ties trd] = .ok (clothD thr ties trd) := by
  have c16 := h.c16
  have a16 := h.a16
  refine w_run (w_set (v_lst v_nil (by decide)) ?_)
  refine w_for (fun i ρ => ∃ v2, ρ = [some (loomD thr ties trd), some (.lst (((trd.map D.int).take i).map (wovD thr ties))), v2]) (v_items (v_2 (v_var rfl) v_c (l_ixT (atI_nat (j := 2) rfl))) rfl) ⟨none, rfl⟩ ?_ ?_
  · rintro i d ρ hd ⟨v2, rfl⟩
    obtain ⟨k, hk, rfl⟩ := List.mem_map.mp (List.mem_of_getElem? hd)
    refine ⟨_, rfl, w_app1 rfl (v_fn (v_cons (v_lc (v_items (v_2 (v_var rfl) v_c (l_ixT (atI_nat (j := 0) rfl))) rfl) (by rw [List.length_map]; omega) (lcD_map (ρ1 := fun s => [some s, some (.int k), some (loomD thr ties trd)]) (f := fun s => .int (litI (asI s) (ties.getD k.toNat []))) fun s hs => ⟨rfl, rfl, ?_⟩)) v_nil) rfl) ?_ ⟨_, .inl rfl, ?_⟩⟩
    · obtain ⟨j, _, rfl⟩ := List.mem_map.mp hs
      exact v_fn (v_cons (v_2 (v_var rfl) (v_2 (v_2 (v_var rfl) v_c (l_ixT (atI_nat (j := 1) rfl))) (v_var rfl) (l_ixT (tie_at h hk))) (l_in _ _)) v_nil) rfl
    · rw [List.length_map, List.length_take, List.length_map]
      omega
    · rw [List.take_succ, hd, List.map_append]
      refine ⟨some (.int k), ?_⟩
      have e : wovD thr ties (.int k) = .tup ((thr.map D.int).map fun s => .int (litI (asI s) (ties.getD k.toNat []))) := by
        unfold wovD rowD
        rw [List.map_map, List.map_map]
        rfl
      show _ = [some (loomD thr ties trd), some (.lst (((trd.map D.int).take i).map (wovD thr ties) ++ [wovD thr ties (.int k)])), _]
      rw [e]
      rfl
  · rintro ρ' ⟨v2, rfl⟩
    refine w_ret (v_fn (v_cons (v_var rfl) v_nil) rfl) ?_
    unfold clothD
    rw [List.take_of_length_le (Nat.le_refl _)]
end
def rngI (n : Nat) : List Int := (List.range n).map fun k => 0 + (k : Nat)
theorem rng_eq (n : Nat) : rangeD 0 n = (rngI n).map D.int := by
  unfold rangeD rngI
  rw [List.map_map]
  rfl
theorem rng_mem {n : Nat} {x : Int} (h : x ∈ rngI n) : 0 ≤ x ∧ x < n := by
  obtain ⟨k, hk, rfl⟩ := List.mem_map.mp h
  have := List.mem_range.mp hk
  omega
theorem rng_len (n : Nat) : (rngI n).length = n := by
  unfold rngI
  rw [List.length_map, List.length_range]
theorem rng_inc (n : Nat) : (rngI n).Pairwise (· < ·) := by
  unfold rngI
  rw [List.pairwise_map]
  exact List.Pairwise.imp (fun {a b} h => by omega) List.pairwise_lt_range
def tieQ (seed s : Int) : Bool := decide (mixM (seed + 29 * s * s) 9887 2 = 0)
def tieM (ns : List Int) (k : Int) (n : Nat) (t : Int) : List Int := (rngI n).filter (tieQ (cellM ns (k + 4 + t) + 13 * t * t))
def tiesM (ns : List Int) (k : Int) (n m : Nat) : List (List Int) := (rngI m).map (tieM ns k n)
def thrM (ns : List Int) (k sh : Int) (n : Nat) : List Int := (rngI n).map fun i => mixM (cellM ns (k + 5 + i % 5) + 17 * i * i) 9883 sh
def trdM (ns : List Int) (k tr : Int) (n : Nat) : List Int := (rngI n).map fun i => mixM (cellM ns (k + 6 + i % 5) + 19 * i * i) 9871 tr
def shM (ns : List Int) (k : Int) : Int := 1 + mixM (cellM ns (k + 2)) 9907 6
def trM (ns : List Int) (k : Int) : Int := 1 + mixM (cellM ns (k + 3)) 9907 5
theorem loomM_ok (ns : List Int) (k : Int) : Loom (thrM ns k (shM ns k) (sizeM (cellM ns k)).toNat) (tiesM ns k (shM ns k).toNat (trM ns k).toNat) (trdM ns k (trM ns k) (sizeM (cellM ns (k + 1))).toNat) := by
  have w1 := sizeM_lo (cellM ns k)
  have w2 := sizeM_hi (cellM ns k)
  have w3 := sizeM_lo (cellM ns (k + 1))
  have w4 := sizeM_hi (cellM ns (k + 1))
  have s1 := mixM_lo (c := cellM ns (k + 2)) (p := 9907) (show (0 : Int) < 6 by decide)
  have s2 := mixM_hi (c := cellM ns (k + 2)) (p := 9907) (show (0 : Int) < 6 by decide)
  have t1 := mixM_lo (c := cellM ns (k + 3)) (p := 9907) (show (0 : Int) < 5 by decide)
  have t2 := mixM_hi (c := cellM ns (k + 3)) (p := 9907) (show (0 : Int) < 5 by decide)
  have e1 : 1 ≤ shM ns k ∧ shM ns k ≤ 6 := by unfold shM; omega
  have e2 : 1 ≤ trM ns k ∧ trM ns k ≤ 5 := by unfold trM; omega
  generalize shM ns k = sh at *
  generalize trM ns k = tr at *
  refine ⟨?_, ?_, fun x hx => ?_, ?_, ?_, fun t ht => ?_, ?_, ?_, fun x hx => ?_⟩
  · unfold thrM; rw [List.length_map, rng_len]; omega
  · unfold thrM; rw [List.length_map, rng_len]; omega
  · obtain ⟨i, _, rfl⟩ := List.mem_map.mp hx
    have z1 := mixM_lo (c := cellM ns (k + 5 + i % 5) + 17 * i * i) (p := 9883) (show 0 < sh by omega)
    have z2 := mixM_hi (c := cellM ns (k + 5 + i % 5) + 17 * i * i) (p := 9883) (show 0 < sh by omega)
    omega
  · unfold tiesM; rw [List.length_map, rng_len]; omega
  · unfold tiesM; rw [List.length_map, rng_len]; omega
  · obtain ⟨i, _, rfl⟩ := List.mem_map.mp ht
    refine ⟨fun x hx => ?_, (rng_inc _).filter _, Nat.le_trans (List.length_filter_le _ _) ?_⟩
    · have := rng_mem (List.mem_filter.mp hx).1
      omega
    · rw [rng_len]; omega
  · unfold trdM; rw [List.length_map, rng_len]; omega
  · unfold trdM; rw [List.length_map, rng_len]; omega
  · obtain ⟨i, _, rfl⟩ := List.mem_map.mp hx
    have z1 := mixM_lo (c := cellM ns (k + 6 + i % 5) + 19 * i * i) (p := 9871) (show 0 < tr by omega)
    have z2 := mixM_hi (c := cellM ns (k + 6 + i % 5) + 19 * i * i) (p := 9871) (show 0 < tr by omega)
    unfold tiesM
    rw [List.length_map, rng_len]
    omega
theorem d_lloom {ns : List Int} {k : Int} (hk : 0 ≤ k) : m__law_loom [.scr ns, .int k] = .ok (loomD (thrM ns k (shM ns k) (sizeM (cellM ns k)).toNat) (tiesM ns k (shM ns k).toNat (trM ns k).toNat) (trdM ns k (trM ns k) (sizeM (cellM ns (k + 1))).toNat)) := by
  have w1 := sizeM_lo (cellM ns k)
  have w2 := sizeM_hi (cellM ns k)
  have w3 := sizeM_lo (cellM ns (k + 1))
  have w4 := sizeM_hi (cellM ns (k + 1))
  have s1 := mixM_lo (c := cellM ns (k + 2)) (p := 9907) (show (0 : Int) < 6 by decide)
  have s2 := mixM_hi (c := cellM ns (k + 2)) (p := 9907) (show (0 : Int) < 6 by decide)
  have t1 := mixM_lo (c := cellM ns (k + 3)) (p := 9907) (show (0 : Int) < 5 by decide)
  have t2 := mixM_hi (c := cellM ns (k + 3)) (p := 9907) (show (0 : Int) < 5 by decide)
  have e1 : 1 ≤ shM ns k ∧ shM ns k ≤ 6 := by unfold shM; omega
  have e2 : 1 ≤ trM ns k ∧ trM ns k ≤ 5 := by unfold trM; omega
  refine w_run (w_set (by walk_at "ev") (w_set (by walk_at "ev") (w_set (d := .int (shM ns k)) (by unfold shM; walk_at "ev") (w_set (d := .int (trM ns k)) (by unfold trM; walk_at "ev") (w_set (v_lst v_nil (by decide)) ?_)))))
  generalize shM ns k = sh at *
  generalize trM ns k = tr at *
  refine w_for (fun i ρ => ∃ v7 v8, ρ = [some (.scr ns), some (.int k), some (.int (sizeM (cellM ns k))), some (.int (sizeM (cellM ns (k + 1)))), some (.int sh), some (.int tr), some (.lst ((List.range i).map fun t => rowD (tieM ns k sh.toNat (0 + (t : Nat))))), v7, v8, none, none])
    (v_it (v_cons (v_var rfl) v_nil) (l_ran1 (by omega) (by omega))) ⟨none, none, rfl⟩ ?_ ?_
  · rintro i d ρ hd ⟨v7, v8, rfl⟩
    obtain ⟨hi, rfl⟩ := rangeD_get hd
    refine ⟨_, rfl, w_set (d := .int (cellM ns (k + 4 + (0 + (i : Nat))) + 13 * (0 + (i : Nat)) * (0 + (i : Nat)))) (by walk_at "ev") ?_⟩
    have e3 : rowD (tieM ns k sh.toNat (0 + (i : Nat))) = .tup (((rangeD 0 sh.toNat).filter fun d => tieQ (cellM ns (k + 4 + (0 + (i : Nat))) + 13 * (0 + (i : Nat)) * (0 + (i : Nat))) (asI d)).map fun d => d) := by
      rw [List.map_id', rng_eq, List.filter_map]
      rfl
    refine w_app1 rfl (v_fn (v_cons (v_lc (v_it (v_cons (v_var rfl) v_nil) (l_ran1 (by omega) (by omega))) (by rw [rangeD_len]; omega) (lcD_filter (ρ1 := fun s => [some s, some (.int (cellM ns (k + 4 + (0 + (i : Nat))) + 13 * (0 + (i : Nat)) * (0 + (i : Nat))))]) (q := fun d => tieQ (cellM ns (k + 4 + (0 + (i : Nat))) + 13 * (0 + (i : Nat)) * (0 + (i : Nat))) (asI d)) (f := fun d => d) fun s hs => ⟨rfl, ?_, fun _ => v_var rfl⟩)) v_nil) rfl) ?_ ⟨_, .inl rfl, ?_⟩
    · rw [rng_eq] at hs
      obtain ⟨j, hj, rfl⟩ := List.mem_map.mp hs
      have hj := rng_mem hj
      unfold tieQ asI
      dsimp only
      walk_at "ev"
    · rw [List.length_map, List.length_range]
      omega
    · rw [List.range_succ, List.map_append, List.map_cons, List.map_nil, e3]
      exact ⟨_, _, rfl⟩
  · rintro ρ' ⟨v7, v8, rfl⟩
    have e4 : .tup ((rangeD 0 (sizeM (cellM ns k)).toNat).map fun d => .int (mixM (cellM ns (k + 5 + asI d % 5) + 17 * asI d * asI d) 9883 sh)) = rowD (thrM ns k sh (sizeM (cellM ns k)).toNat) := by
      unfold rowD thrM
      rw [rng_eq, List.map_map, List.map_map]
      rfl
    have e5 : .tup ((rangeD 0 (sizeM (cellM ns (k + 1))).toNat).map fun d => .int (mixM (cellM ns (k + 6 + asI d % 5) + 19 * asI d * asI d) 9871 tr)) = rowD (trdM ns k tr (sizeM (cellM ns (k + 1))).toNat) := by
      unfold rowD trdM
      rw [rng_eq, List.map_map, List.map_map]
      rfl
    have e6 : .tup ((List.range (rangeD 0 tr.toNat).length).map fun t => rowD (tieM ns k sh.toNat (0 + (t : Nat)))) = clD (tiesM ns k sh.toNat tr.toNat) := by
      unfold clD tiesM rngI
      rw [rangeD_len, List.map_map, List.map_map]
      rfl
    refine w_set (v_lc (v_it (v_cons (v_var rfl) v_nil) (l_ran1 (by omega) (by omega))) (by rw [rangeD_len]; omega) (lcD_map (ρ1 := fun d => [some d, some (.int sh), some (.scr ns), some (.int k)]) (f := fun d => .int (mixM (cellM ns (k + 5 + asI d % 5) + 17 * asI d * asI d) 9883 sh)) fun d hd => ⟨rfl, rfl, ?_⟩)) (w_set (v_lc (v_it (v_cons (v_var rfl) v_nil) (l_ran1 (by omega) (by omega))) (by rw [rangeD_len]; omega) (lcD_map (ρ1 := fun d => [some d, some (.int tr), some (.scr ns), some (.int k)]) (f := fun d => .int (mixM (cellM ns (k + 6 + asI d % 5) + 19 * asI d * asI d) 9871 tr)) fun d hd => ⟨rfl, rfl, ?_⟩))
      (w_ret (v_tup (v_cons (v_fn (v_cons (v_var rfl) v_nil) rfl) (v_cons (v_fn (v_cons (v_var rfl) v_nil) rfl) (v_cons (v_fn (v_cons (v_var rfl) v_nil) rfl) v_nil))) (Nat.le_of_ble_eq_true rfl)) ?_))
    · rw [rng_eq] at hd
      obtain ⟨j, hj, rfl⟩ := List.mem_map.mp hd
      have hj := rng_mem hj
      unfold asI
      dsimp only
      walk_at "ev"
    · rw [rng_eq] at hd
      obtain ⟨j, hj, rfl⟩ := List.mem_map.mp hd
      have hj := rng_mem hj
      unfold asI
      dsimp only
      walk_at "ev"
    · unfold loomD
      rw [← e4, ← e5, ← e6]
end DL
namespace DL
open PySem PySem.Spec L2 Wv
def colM (rows : List (List Int)) (k : Nat) : List Int := rows.map fun r => r.getD k 0
section
variable {rows : List (List Int)} {n : Nat}
theorem d_columnR {k : Nat} (hR : Rect rows n) (hk : k < n) : m_column [clD rows, .int (k : Nat)] = .ok (rowD (colM rows k)) := by
  have r16 := hR.r16
  refine w_run (w_ret (v_fn (v_cons (v_lc (v_items (v_var rfl) rfl) (by rw [List.length_map]; omega) (lcD_mapE (h := fun r => .int (r.getD k 0)) fun r hr => ⟨_, rfl, rfl, v_2 (v_var rfl) (v_var rfl) ?_⟩)) v_nil) rfl) ?_)
  · have e := bit_at (r := r) (k := (k : Nat)) (by omega) (by rw [hR.all r hr]; omega)
    rw [Int.toNat_natCast] at e
    exact e
  · unfold rowD colM
    rw [List.map_map]
    rfl
theorem d_columns (hR : Rect rows n) : m_columns [clD rows] = .ok (.lst (((List.range n).map (colM rows)).map rowD)) := by
  have n16 := hR.n16
  refine w_run (w_ret (v_lc (v_it (v_cons (v_wideR hR rfl) v_nil) (l_ran1 (by omega) (by omega))) (by rw [rangeD_len]; omega) (es := ((List.range n).map (colM rows)).map rowD) ?_) rfl)
  unfold rangeD
  rw [Int.toNat_natCast, List.map_map]
  refine lcD_mapE fun k hk => ⟨_, rfl, rfl, v_fn (v_cons (v_var rfl) (v_cons (v_var rfl) v_nil)) ?_⟩
  rw [Int.zero_add]
  exact d_columnR hR (List.mem_range.mp hk)
end
section
variable {A : Type} [DecidableEq A]
def uqG (U : List A) : List A → List A
  | [] => U
  | a :: l => uqG (if a ∈ U then U else U ++ [a]) l
theorem uq_mem : ∀ (l U : List A) (a : A), a ∈ uqG U l ↔ a ∈ U ∨ a ∈ l
  | [], U, a => by rw [uqG]; simp
  | b :: l, U, a => by
    rw [uqG, uq_mem l]
    split
    · rename_i h
      rw [List.mem_cons]
      constructor
      · rintro (z | z)
        · exact .inl z
        · exact .inr (.inr z)
      · rintro (z | z | z)
        · exact .inl z
        · exact .inl (by rw [z]; exact h)
        · exact .inr z
    · rw [List.mem_append, List.mem_singleton, List.mem_cons]
      exact or_assoc
theorem uq_nd : ∀ (l U : List A), U.Nodup → (uqG U l).Nodup
  | [], U, h => h
  | b :: l, U, h => by
    rw [uqG]
    refine uq_nd l _ ?_
    split
    · exact h
    · rename_i hb
      rw [List.nodup_append]
      refine ⟨h, List.nodup_cons.mpr ⟨List.not_mem_nil, List.nodup_nil⟩, fun x hx y hy e => ?_⟩
      rw [List.mem_singleton.mp hy] at e
      exact hb (by rw [← e]; exact hx)
theorem uq_snoc : ∀ (l U : List A) (a : A), uqG U (l ++ [a]) = if a ∈ uqG U l then uqG U l else uqG U l ++ [a]
  | [], U, a => rfl
  | b :: l, U, a => by
    rw [List.cons_append, uqG, uqG]
    exact uq_snoc l _ a
theorem uq_map {B : Type} [DecidableEq B] (f : A → B) : ∀ (l U : List A), (∀ a b, a ∈ U ∨ a ∈ l → b ∈ U ∨ b ∈ l → f a = f b → a = b) → uqG (U.map f) (l.map f) = (uqG U l).map f
  | [], U, _ => rfl
  | b :: l, U, h => by
    rw [List.map_cons, uqG, uqG]
    have hm : f b ∈ U.map f ↔ b ∈ U := by
      constructor
      · intro z
        obtain ⟨x, hx, e⟩ := List.mem_map.mp z
        rw [← h x b (.inl hx) (.inr List.mem_cons_self) e]
        exact hx
      · exact fun z => List.mem_map_of_mem z
    by_cases hb : b ∈ U
    · rw [if_pos hb, if_pos (hm.mpr hb)]
      refine uq_map f l U fun x y hx hy e => h x y (hx.imp id (List.mem_cons_of_mem _)) (hy.imp id (List.mem_cons_of_mem _)) e
    · rw [if_neg hb, if_neg (fun z => hb (hm.mp z))]
      have e : U.map f ++ [f b] = (U ++ [b]).map f := by rw [List.map_append]; rfl
      rw [e]
      have k : ∀ x, x ∈ U ++ [b] ∨ x ∈ l → x ∈ U ∨ x ∈ b :: l := fun x hx => by
        rcases hx with hx | hx
        · rcases List.mem_append.mp hx with z | z
          · exact .inl z
          · exact .inr (by rw [List.mem_singleton.mp z]; exact List.mem_cons_self)
        · exact .inr (List.mem_cons_of_mem _ hx)
      exact uq_map f l _ fun x y hx hy e => h x y (k x hx) (k y hy) e
def ix (a : A) : List A → Nat
  | [] => 0
  | b :: l => if b = a then 0 else ix a l + 1
theorem ix_get {a : A} : ∀ {U : List A}, a ∈ U → U[ix a U]? = some a
  | b :: l, h => by
    rw [ix]
    by_cases e : b = a
    · rw [if_pos e, e]
      rfl
    · rw [if_neg e, List.getElem?_cons_succ]
      exact ix_get ((List.mem_cons.mp h).resolve_left fun z => e z.symm)
theorem ix_lt {a : A} {U : List A} (h : a ∈ U) : ix a U < U.length := (List.getElem?_eq_some_iff.mp (ix_get h)).1
theorem ix_inj {a b : A} {U : List A} (ha : a ∈ U) (hb : b ∈ U) (h : ix a U = ix b U) : a = b := by
  have h1 := ix_get ha
  rw [h, ix_get hb] at h1
  exact (Option.some.inj h1).symm
theorem ix_app {a : A} {V : List A} : ∀ {U : List A}, a ∈ U → ix a (U ++ V) = ix a U
  | b :: l, h => by
    rw [List.cons_append, ix, ix]
    by_cases e : b = a
    · rw [if_pos e, if_pos e]
    · rw [if_neg e, if_neg e, ix_app ((List.mem_cons.mp h).resolve_left fun z => e z.symm)]
theorem ix_new {a : A} : ∀ {U : List A}, a ∉ U → ix a (U ++ [a]) = U.length
  | [], _ => by rw [List.nil_append, ix, if_pos rfl]; rfl
  | b :: l, h => by
    rw [List.cons_append, ix, if_neg fun e => h (by rw [e]; exact List.mem_cons_self), ix_new fun z => h (List.mem_cons_of_mem _ z)]
    rfl
theorem ix_range {U : List A} (h : U.Nodup) : U.map (fun a => ix a U) = List.range U.length := by
  refine List.ext_getElem (by rw [List.length_map, List.length_range]) fun i h1 h2 => ?_
  rw [List.length_range] at h2
  rw [List.getElem_map, List.getElem_range]
  have g := ix_get (List.getElem_mem h2)
  obtain ⟨h3, e⟩ := List.getElem?_eq_some_iff.mp g
  exact (List.getElem_inj h).mp e
def nbW (U : List A) : List (A × Nat) := U.map fun a => (a, ix a U)
theorem nbW_snoc {U : List A} {a : A} (h : a ∉ U) : nbW (U ++ [a]) = nbW U ++ [(a, U.length)] := by
  unfold nbW
  rw [List.map_append, List.map_singleton, ix_new h]
  refine congrArg (· ++ _) (List.map_congr_left fun b hb => ?_)
  rw [ix_app hb]
theorem nbW_keys (U : List A) : (nbW U).map (·.1) = U := by
  unfold nbW
  rw [List.map_map]
  exact List.map_id' U
theorem nbW_find {U : List A} {a : A} (h : a ∈ U) : ((nbW U).find? fun p => decide (p.1 = a)) = some (a, ix a U) := by
  obtain ⟨p, hp, e, f⟩ := find_mem (W := nbW U) (a := a) (by rw [nbW_keys]; exact h)
  obtain ⟨b, hb, rfl⟩ := List.mem_map.mp hp
  have e : b = a := e
  subst e
  exact f
end
theorem keyDs_int : ∀ r : List Int, keyDs (r.map PyData.int) = true ∧ PyData.depthAll (r.map PyData.int) ≤ 7
  | [] => ⟨rfl, Nat.zero_le _⟩
  | x :: r => by
    obtain ⟨h1, h2⟩ := keyDs_int r
    rw [List.map_cons, keyDs, PyData.depthAll, h1, keyD, PyData.depth]
    exact ⟨rfl, by omega⟩
theorem ok_row (r : List Int) : okKey (rowD r) = true := by
  obtain ⟨h1, h2⟩ := keyDs_int r
  show (keyDs (toPs (r.map D.int)) && decide (PyData.depthAll (toPs (r.map D.int)) ≤ 7)) = true
  rw [toPs_int, h1, decide_eq_true h2]
  rfl
theorem toP_row (r : List Int) : toP (rowD r) = .tuple (r.map PyData.int) := by
  unfold rowD
  rw [toP, toPs_int]
theorem map_int_inj : ∀ {a b : List Int}, a.map PyData.int = b.map PyData.int → a = b
  | [], [], _ => rfl
  | x :: a, y :: b, h => by
    rw [List.map_cons, List.map_cons] at h
    obtain ⟨h1, h2⟩ := List.cons.inj h
    rw [PyData.int.inj h1, map_int_inj h2]
theorem row_inj {a b : List Int} (h : toP (rowD a) = toP (rowD b)) : a = b := by
  rw [toP_row, toP_row] at h
  exact map_int_inj (PyData.tuple.inj h)
theorem eqv_rowD (a b : List Int) : eqvD (rowD a) (rowD b) = decide (a = b) := by
  rw [eqv_ok (ok_row a) (ok_row b)]
  exact decide_eq_decide.mpr ⟨row_inj, fun e => by rw [e]⟩
def nbD (U : List (List Int)) : D := .dct ((nbW U).map fun p => rowD p.1) ((nbW U).map fun p => .int (p.2 : Nat))
theorem nb_len (U : List (List Int)) : ((nbW U).map fun p => rowD p.1).length = U.length := by
  unfold nbW
  rw [List.length_map, List.length_map]
theorem d_nums {d : D} {L : List (List Int)} (h : asItems d = .ok (L.map rowD)) (hl : L.length ≤ 16) : m_numbers_by_first_standing [d] = .ok (nbD (uqG [] L)) := by
  refine w_run (w_set v_c ?_)
  refine w_for (ds := L.map rowD) (fun i ρ => ∃ v2, ρ = [some d, some (nbD (uqG [] (L.take i))), v2]) (v_items (v_var rfl) h) ⟨none, rfl⟩ ?_ ?_
  · rintro i x ρ hd ⟨v2, rfl⟩
    rw [List.getElem?_map] at hd
    obtain ⟨r, hr, rfl⟩ := Option.map_eq_some_iff.mp hd
    have tk : L.take (i + 1) = L.take i ++ [r] := by rw [List.take_succ, hr]; rfl
    have us := uq_snoc (L.take i) [] r
    rw [← tk] at us
    have ul : (uqG [] (L.take i)).length ≤ 16 := by
      have := nodup_len (m := L) (uq_nd (L.take i) [] List.nodup_nil) fun x hx => by
        rcases (uq_mem _ _ _).mp hx with z | z
        · cases z
        · exact List.mem_of_mem_take z
      omega
    generalize uqG [] (L.take i) = U at us ul
    have inn : inK true (rowD r) (nbD U) = .ok (.bl (!decide (r ∈ U))) := by
      unfold nbD
      rw [l_inK (ok_row r)]
      have e := any_enc eqv_rowD r ((nbW U).map (·.1))
      rw [List.map_map, nbW_keys] at e
      rw [show ((nbW U).map fun p => rowD p.1) = (nbW U).map (rowD ∘ fun p => p.1) from rfl, e, if_pos rfl]
      exact congrArg (fun b => R.ok (D.bl (!b))) (decide_eq_decide.mpr Iff.rfl)
    refine ⟨_, rfl, w_if1 (v_tst (v_2 (v_var rfl) (v_var rfl) inn)) (fun q => ?_) fun q => w_nil1 ⟨_, .inl rfl, some (rowD r), ?_⟩⟩
    · have hn : r ∉ U := by simpa using q
      rw [if_neg hn] at us
      refine w_put1 rfl (v_var rfl) (v_fn (v_cons (v_var rfl) v_nil) (show lenK [nbD U] = R.ok (D.int (U.length : Nat)) from ?_)) (ok_row r) (by rw [nb_len]; omega) ⟨_, .inl rfl, some (rowD r), ?_⟩
      · show R.ok (D.int (((nbW U).map fun p => rowD p.1).length : Nat)) = _
        rw [nb_len]
      · rw [us]
        have e := put_enc (eb := fun k : Nat => D.int (k : Nat)) (dv := D.int (U.length : Nat)) eqv_rowD (a := r) (W := nbW U) (by rw [nbW_keys]; exact hn)
        have e2 : nbD (U ++ [r]) = putD (rowD r) (D.int (U.length : Nat)) ((nbW U).map fun p => rowD p.1) ((nbW U).map fun p => D.int (p.2 : Nat)) := by
          rw [e]
          unfold nbD
          rw [nbW_snoc hn, List.map_append, List.map_append]
          rfl
        rw [e2]
        rfl
    · have hn : r ∈ U := by simpa using q
      rw [us, if_pos hn]
      rfl
  · rintro ρ' ⟨v2, rfl⟩
    rw [List.length_map, List.take_length]
    exact w_ret (v_var rfl) rfl
end DL
namespace DL
open PySem PySem.Spec L2 Wv
theorem lit_is (s : Int) (t : List Int) : litB s t = decide (s ∈ t) := (any_enc eqv_int s t).trans (decide_eq_decide.mpr Iff.rfl)
theorem d_firsts {l : List Int} (hl : l.length ≤ 16) : m__law_firsts [rowD l] = .ok (lsD (uqG [] l)) := by
  refine w_run (w_set (v_lst v_nil (Nat.le_of_ble_eq_true rfl)) ?_)
  refine w_for (ds := l.map D.int) (fun i ρ => ∃ v2, ρ = [some (rowD l), some (lsD (uqG [] (l.take i))), v2]) (v_items (v_var rfl) rfl) ⟨none, rfl⟩ ?_ ?_
  · rintro i x ρ hd ⟨v2, rfl⟩
    rw [List.getElem?_map] at hd
    obtain ⟨r, hr, rfl⟩ := Option.map_eq_some_iff.mp hd
    have tk : l.take (i + 1) = l.take i ++ [r] := by rw [List.take_succ, hr]; rfl
    have us := uq_snoc (l.take i) [] r
    rw [← tk] at us
    have ul : (uqG [] (l.take i)).length ≤ 16 := by
      have := nodup_len (m := l) (uq_nd (l.take i) [] List.nodup_nil) fun x hx => by
        rcases (uq_mem _ _ _).mp hx with z | z
        · cases z
        · exact List.mem_of_mem_take z
      omega
    generalize uqG [] (l.take i) = U at us ul
    have inn : inQ true (.int r) (lsD U) = .ok (.bl (!decide (r ∈ U))) := by
      rw [l_notInL rfl (fit_mono (fit_ls U) (by decide)), any_enc eqv_int r U]
    refine ⟨_, rfl, w_if1 (v_tst (v_2 (v_var rfl) (v_var rfl) inn)) (fun q => ?_) fun q => w_nil1 ⟨_, .inl rfl, some (.int r), ?_⟩⟩
    · have hn : r ∉ U := by simpa using q
      rw [if_neg hn] at us
      refine w_app1 rfl (v_var rfl) (by rw [List.length_map]; omega) ⟨_, .inl rfl, some (.int r), ?_⟩
      rw [us]
      unfold lsD
      rw [List.map_append]
      rfl
    · have hn : r ∈ U := by simpa using q
      rw [us, if_pos hn]
      rfl
  · rintro ρ' ⟨v2, rfl⟩
    rw [List.length_map, List.take_length]
    exact w_ret (v_var rfl) rfl
def undM (thr row : List Int) : List Int := ((thr.zip row).filter fun p => decide (p.2 = 1)).map (·.1)
def liftM (thr row : List Int) : List Int := sortI (dedI (undM thr row))
theorem pairs_int : ∀ a b : List Int, pairsD (a.map D.int) (b.map D.int) = (a.zip b).map fun p => D.tup [.int p.1, .int p.2]
  | [], b => by rw [List.map_nil, List.zip_nil_left, List.map_nil]; simp [pairsD]
  | x :: a, [] => by rw [List.map_cons, List.map_nil, List.zip_nil_right, List.map_nil]; simp [pairsD]
  | x :: a, y :: b => by
    rw [List.map_cons, List.map_cons, pairsD, pairs_int a b, List.zip_cons_cons, List.map_cons]
theorem und_len (thr row : List Int) : (undM thr row).length ≤ thr.length := by
  unfold undM
  rw [List.length_map]
  refine Nat.le_trans (List.length_filter_le _ _) ?_
  rw [List.length_zip]
  omega
theorem und_mem {thr row : List Int} {x : Int} : x ∈ undM thr row ↔ ∃ j : Nat, thr[j]? = some x ∧ row[j]? = some 1 := by
  unfold undM
  rw [List.mem_map]
  constructor
  · rintro ⟨p, hp, rfl⟩
    obtain ⟨h1, h2⟩ := List.mem_filter.mp hp
    obtain ⟨j, hj⟩ := List.mem_iff_getElem?.mp h1
    obtain ⟨a, b⟩ := List.getElem?_zip_eq_some.mp hj
    rw [of_decide_eq_true h2] at b
    exact ⟨j, a, b⟩
  · rintro ⟨j, a, b⟩
    exact ⟨(x, 1), List.mem_filter.mpr ⟨List.mem_of_getElem? (List.getElem?_zip_eq_some (z := (x, 1)).mpr ⟨a, b⟩), rfl⟩, rfl⟩
theorem lift_mem {thr row : List Int} {x : Int} : x ∈ liftM thr row ↔ ∃ j : Nat, thr[j]? = some x ∧ row[j]? = some 1 := by
  unfold liftM
  rw [(sortI_perm _).mem_iff, dedI_mem, und_mem]
theorem lift_inc (thr row : List Int) : (liftM thr row).Pairwise (· < ·) := by
  have h1 := sortI_inc (dedI (undM thr row))
  have h2 : (sortI (dedI (undM thr row))).Nodup := (sortI_perm _).nodup_iff.mpr (dedI_nd _)
  exact (h1.and h2).imp fun {a b} z => by
    have := z.1
    have := z.2
    omega
theorem lift_len (thr row : List Int) : (liftM thr row).length ≤ thr.length := by
  unfold liftM
  rw [(sortI_perm _).length_eq]
  exact Nat.le_trans (dedI_len _) (und_len _ _)
theorem d_lifted {thr row : List Int} (hl : thr.length ≤ 16) : m_lifted_shafts [rowD thr, rowD row] = .ok (rowD (liftM thr row)) := by
  have ul := und_len thr row
  have e : sortedSetI [.lst ((undM thr row).map D.int)] = .ok (.lst ((liftM thr row).map D.int)) := by
    show ofInts _ ((undM thr row).map D.int) = _
    unfold ofInts
    rw [intsD_map]
    exact if_pos (by omega)
  have e0 : ((thr.zip row).filter fun p => decide (p.2 = 1)).map (fun p => D.int p.1) = (undM thr row).map D.int := by
    unfold undM
    rw [List.map_map]
    rfl
  refine w_run (w_ret (v_fn (v_cons (v_fn (v_cons (v_lc (es := (undM thr row).map D.int) (ds := (thr.zip row).map fun p => D.tup [.int p.1, .int p.2]) (v_it (v_cons (v_var rfl) (v_cons (v_var rfl) v_nil)) ?_) ?_ ?_) v_nil) e) v_nil) rfl) rfl)
  · show R.ok (pairsD (thr.map D.int) (row.map D.int)) = _
    rw [pairs_int]
  · rw [List.length_map, List.length_zip]
    omega
  · rw [← e0]
    exact lcD_filterE fun p hp => ⟨_, rfl, v_tst (v_2 (v_var rfl) v_c (l_eqI _ _)), fun _ => v_var rfl⟩
section
variable {rows : List (List Int)} {n : Nat}
def colsM (rows : List (List Int)) (n : Nat) : List (List Int) := (List.range n).map (colM rows)
def thrL (rows : List (List Int)) (n : Nat) : List Int := (colsM rows n).map fun c => ((ix c (uqG [] (colsM rows n)) : Nat) : Int)
def trdL (rows : List (List Int)) : List Int := rows.map fun r => ((ix r (uqG [] rows) : Nat) : Int)
def tiesL (rows : List (List Int)) (n : Nat) : List (List Int) := (uqG [] rows).map (liftM (thrL rows n))
theorem uq_sub {L : List (List Int)} {a : List Int} : a ∈ uqG [] L ↔ a ∈ L := by
  rw [uq_mem]
  simp
theorem uq_len (L : List (List Int)) : (uqG [] L).length ≤ L.length := nodup_len (uq_nd L [] List.nodup_nil) fun x hx => uq_sub.mp hx
theorem l_nb {U : List (List Int)} {a : List Int} (h : a ∈ U) : ixK (nbD U) (rowD a) = .ok (.int ((ix a U : Nat) : Int)) := by
  unfold nbD
  refine l_ixK (ok_row a) ?_
  rw [getK_enc (eb := fun k : Nat => D.int (k : Nat)) eqv_rowD, nbW_find h]
  rfl
theorem cols_len : (colsM rows n).length = n := by unfold colsM; rw [List.length_map, List.length_range]
theorem thr_lenL : (thrL rows n).length = n := by unfold thrL; rw [List.length_map, cols_len]
theorem d_least (hR : Rect rows n) : m_least_loom [clD rows] = .ok (loomD (thrL rows n) (tiesL rows n) (trdL rows)) := by
  have r16 := hR.r16
  have n16 := hR.n16
  have cl := cols_len (rows := rows) (n := n)
  have ul := uq_len rows
  refine w_run (w_set (v_fn (v_cons (v_fn (v_cons (v_var rfl) v_nil) (d_columns hR)) v_nil) (d_nums (L := colsM rows n) rfl (by omega))) (w_set (v_fn (v_cons (v_var rfl) v_nil) (d_nums (L := rows) rfl r16)) ?_))
  refine w_set (d := rowD (thrL rows n)) (v_eq (v_fn (v_cons (v_lc (v_items (v_fn (v_cons (v_var rfl) v_nil) (d_columns hR)) rfl) (by rw [List.length_map, List.length_map, List.length_range]; omega) (lcD_mapE (h := fun c => D.int ((ix c (uqG [] (colsM rows n)) : Nat) : Int)) fun c hc => ⟨_, rfl, rfl, v_2 (v_var rfl) (v_var rfl) (l_nb (uq_sub.mpr hc))⟩)) v_nil) rfl) ?_) ?_
  · show D.tup ((colsM rows n).map fun c => D.int ((ix c (uqG [] (colsM rows n)) : Nat) : Int)) = D.tup (((colsM rows n).map fun c => ((ix c (uqG [] (colsM rows n)) : Nat) : Int)).map D.int)
    exact congrArg D.tup List.map_map.symm
  refine w_set (d := clD (tiesL rows n)) (v_eq (v_fn (v_cons (v_lc (ds := (uqG [] rows).map rowD) (v_items (v_fn (v_cons (v_var rfl) v_nil) (show keysD [nbD (uqG [] rows)] = .ok (.lst ((nbW (uqG [] rows)).map fun p => rowD p.1)) from rfl)) ?_) (by rw [List.length_map]; omega) (lcD_mapE (h := fun r => rowD (liftM (thrL rows n) r)) fun r hr => ⟨_, rfl, rfl, v_fn (v_cons (v_var rfl) (v_cons (v_var rfl) v_nil)) (d_lifted (by rw [thr_lenL]; omega))⟩)) v_nil) rfl) ?_) ?_
  · show R.ok ((nbW (uqG [] rows)).map fun p => rowD p.1) = _
    have e : ((nbW (uqG [] rows)).map (·.1)).map rowD = (uqG [] rows).map rowD := by rw [nbW_keys]
    rw [List.map_map] at e
    exact congrArg R.ok e
  · unfold clD tiesL
    rw [List.map_map]
    rfl
  refine w_set (d := rowD (trdL rows)) (v_eq (v_fn (v_cons (v_lc (v_items (v_var rfl) rfl) (by rw [List.length_map]; omega) (lcD_mapE (h := fun c => D.int ((ix c (uqG [] rows) : Nat) : Int)) fun c hc => ⟨_, rfl, rfl, v_2 (v_var rfl) (v_var rfl) (l_nb (uq_sub.mpr hc))⟩)) v_nil) rfl) ?_) ?_
  · unfold rowD trdL
    rw [List.map_map]
    rfl
  exact w_ret (v_tup (v_cons (v_var rfl) (v_cons (v_var rfl) (v_cons (v_var rfl) v_nil))) (Nat.le_of_ble_eq_true rfl)) rfl
theorem thr_mem {x : Int} (h : x ∈ thrL rows n) : 0 ≤ x ∧ x < ((uqG [] (colsM rows n)).length : Int) := by
  obtain ⟨c, hc, rfl⟩ := List.mem_map.mp h
  have := ix_lt (uq_sub.mpr hc)
  omega
theorem leastL_ok (hR : Rect rows n) : Loom (thrL rows n) (tiesL rows n) (trdL rows) := by
  have r1 := hR.r1
  have r16 := hR.r16
  have n1 := hR.n1
  have n16 := hR.n16
  have ul := uq_len rows
  have uc := uq_len (colsM rows n)
  rw [cols_len] at uc
  have tl : (tiesL rows n).length = (uqG [] rows).length := by unfold tiesL; rw [List.length_map]
  have rl : (trdL rows).length = rows.length := by unfold trdL; rw [List.length_map]
  have t16 : ∀ x ∈ thrL rows n, 0 ≤ x ∧ x < 16 := fun x hx => by
    have := thr_mem hx
    omega
  refine ⟨by rw [thr_lenL]; exact n1, by rw [thr_lenL]; exact n16, t16, ?_, by omega, fun t ht => ?_, by omega, by omega, fun x hx => ?_⟩
  · rw [tl]
    have : (uqG [] rows) ≠ [] := fun e => by
      cases hrs : rows with
      | nil => rw [hrs] at r1; exact absurd r1 (by decide)
      | cons r l =>
        have : r ∈ uqG [] rows := uq_sub.mpr (by rw [hrs]; exact List.mem_cons_self)
        rw [e] at this
        cases this
    have := List.length_pos_iff.mpr this
    omega
  · obtain ⟨r, hr, rfl⟩ := List.mem_map.mp ht
    refine ⟨fun x hx => ?_, lift_inc _ _, ?_⟩
    · obtain ⟨j, hj, _⟩ := lift_mem.mp hx
      exact t16 x (List.mem_of_getElem? hj)
    · have := lift_len (thrL rows n) r
      rw [thr_lenL] at this
      omega
  · obtain ⟨r, hr, rfl⟩ := List.mem_map.mp hx
    have := ix_lt (uq_sub.mpr hr)
    omega
theorem least_wov (hR : Rect rows n) (hb : ∀ r ∈ rows, ∀ b ∈ r, b = 0 ∨ b = 1) : clothD (thrL rows n) (tiesL rows n) (trdL rows) = clD rows := by
  unfold clothD clD trdL
  rw [List.map_map, List.map_map]
  refine congrArg D.tup (List.map_congr_left fun r hr => ?_)
  have hU := uq_sub.mpr hr
  have g : (tiesL rows n).getD (ix r (uqG [] rows)) [] = liftM (thrL rows n) r := by
    unfold tiesL
    rw [List.getD_eq_getElem?_getD, List.getElem?_map, ix_get hU]
    rfl
  show rowD ((thrL rows n).map fun s => litI s ((tiesL rows n).getD (((ix r (uqG [] rows) : Nat) : Int)).toNat [])) = rowD r
  rw [Int.toNat_natCast, g]
  refine congrArg rowD (List.ext_getElem (by rw [List.length_map, thr_lenL, hR.all r hr]) fun j h1 h2 => ?_)
  have hj : j < n := by rw [hR.all r hr] at h2; exact h2
  have cAt : ∀ {i : Nat}, i < n → (colsM rows n)[i]? = some (colM rows i) := fun {i} hi => by
    unfold colsM
    rw [List.getElem?_map, List.getElem?_range hi]
    rfl
  have tAt : ∀ {i : Nat}, i < n → (thrL rows n)[i]? = some (((ix (colM rows i) (uqG [] (colsM rows n)) : Nat)) : Int) := fun {i} hi => by
    unfold thrL
    rw [List.getElem?_map, cAt hi]
    rfl
  have cU : ∀ {i : Nat}, i < n → colM rows i ∈ uqG [] (colsM rows n) := fun {i} hi => uq_sub.mpr (List.mem_of_getElem? (cAt hi))
  rw [List.getElem_map]
  have e1 : (thrL rows n)[j]'(by rw [List.length_map] at h1; exact h1) = ((ix (colM rows j) (uqG [] (colsM rows n)) : Nat) : Int) := by
    have := tAt hj
    rw [List.getElem?_eq_getElem (by rw [List.length_map] at h1; exact h1)] at this
    exact Option.some.inj this
  rw [e1]
  have key : ((ix (colM rows j) (uqG [] (colsM rows n)) : Nat) : Int) ∈ liftM (thrL rows n) r ↔ r[j] = 1 := by
    rw [lift_mem]
    constructor
    · rintro ⟨i, a, b⟩
      have hi : i < n := by
        have := (List.getElem?_eq_some_iff.mp a).1
        rw [thr_lenL] at this
        exact this
      rw [tAt hi] at a
      have e : colM rows i = colM rows j := ix_inj (cU hi) (cU hj) (by have := Option.some.inj a; omega)
      obtain ⟨k, hk, rk⟩ := List.getElem_of_mem hr
      have q : (colM rows i)[k]? = (colM rows j)[k]? := by rw [e]
      unfold colM at q
      rw [List.getElem?_map, List.getElem?_map, List.getElem?_eq_getElem hk, rk] at q
      have q : r.getD i 0 = r.getD j 0 := Option.some.inj q
      rw [List.getD_eq_getElem?_getD, b, List.getD_eq_getElem?_getD, List.getElem?_eq_getElem h2] at q
      exact q.symm
    · intro h
      exact ⟨j, tAt hj, by rw [List.getElem?_eq_getElem h2, h]⟩
  unfold litI
  rw [lit_is]
  rcases hb r hr r[j] (List.getElem_mem h2) with z | z
  · rw [decide_eq_false (fun q => by have := key.mp q; omega), if_neg Bool.false_ne_true, z]
  · rw [decide_eq_true (key.mpr z), if_pos rfl, z]
end
end DL
namespace DL
open PySem PySem.Spec L2 Wv
noncomputable def kontL : Ev → R Fl := (sSeq (sSet 3 (mFn m_least_loom (mCons (mV 2) mNil)))
  (sSeq (sIf (mTor (mTst (m2 (mFn m_checked_loom (mCons (mV 3) mNil)) (mV 3) neD)) (mTst (m2 (mFn m__law_woven (mCons (mV 3) mNil)) (mV 2) neD)))
  (sRet (mC (.bl false)))
  sNil)
  (sSeq (sAsg (gT3 4 5 6) (mV 3))
  (sSeq (sSet 7 (mFn lenSetT (mCons (mLc (mIt (mCons (mFn lenD (mCons (m2 (mV 2) (mC (.int 0)) ixD) mNil)) mNil) ran1) [none, some 2] (gN 0) mYes (mFn tupleD (mCons (mLc (mItems (mV 1)) [none, some 0] (gN 0) mYes (m2 (mV 0) (mV 1) ixD)) mNil))) mNil)))
  (sSeq (sIf (mTor (mTst (m2 (mFn m__law_firsts (mCons (mV 4) mNil)) (mLstRan (mV 7)) neD)) (mTst (m2 (mFn m__law_firsts (mCons (mV 6) mNil)) (mLstRan (mFn lenSetTP (mCons (mV 2) mNil))) neD)))
  (sRet (mC (.bl false)))
  sNil)
  (sSeq (sIf (mTor (mTst (m2 (mFn lenD (mCons (mV 5) mNil)) (mFn lenSetTP (mCons (mV 2) mNil)) neD)) (mTst (m2 (mLc (mItems (mV 5)) [none, some 7] (gN 0) (mTst (m2 (mFn maxd0 (mCons (mV 0) mNil)) (mV 1) geD)) (mV 0)) (mLst mNil) neD)))
  (sRet (mC (.bl false)))
  sNil)
  (sSeq (sIf (mTst (m2 (m2 (mFn m__law_cell (mCons (mV 0) (mCons (mC (.int 0)) mNil))) (mC (.int 2)) modD) (mC (.int 1)) eqD))
  (sRet (mC (.bl true)))
  sNil)
  (sRet (mAnd (m2 (mFn lenSetIT (mCons (m2 (mV 1) (mC (.int 0)) ixD) mNil)) (mV 7) geD) (m2 (mFn lenSetIT (mCons (m2 (mV 1) (mC (.int 2)) ixD) mNil)) (mFn lenD (mCons (mV 5) mNil)) geD))))))))))
section
variable {rows : List (List Int)} {n : Nat}
theorem rowsD_nd {L : List (List Int)} (h : L.Nodup) : (rowsD L).Nodup := by
  unfold rowsD
  rw [List.Nodup, List.pairwise_map]
  exact List.Pairwise.imp (fun {a b} ne e => ne (map_int_inj (PyData.tuple.inj e))) h
theorem ded_len (L : List (List Int)) : (dedP (toPs (L.map rowD))).length = (uqG [] L).length := by
  rw [toPs_rows]
  have e : (dedP (rowsD L)).Perm (rowsD (uqG [] L)) := (List.perm_ext_iff_of_nodup (dedP_nd _) (rowsD_nd (uq_nd L [] List.nodup_nil))).mpr fun d => by
    rw [dedP_mem]
    unfold rowsD
    rw [List.mem_map, List.mem_map]
    constructor
    · rintro ⟨r, hr, rfl⟩
      exact ⟨r, uq_sub.mpr hr, rfl⟩
    · rintro ⟨r, hr, rfl⟩
      exact ⟨r, uq_sub.mp hr, rfl⟩
  have := e.length_eq
  unfold rowsD at this ⊢
  rw [List.length_map] at this
  exact this
theorem rows_ok (L : List (List Int)) : (L.map rowD).all okKey = true := List.all_eq_true.mpr fun d hd => by
  obtain ⟨r, _, rfl⟩ := List.mem_map.mp hd
  exact ok_row r
theorem l_setL {L : List (List Int)} (h : L.length ≤ 60) : lenSetT [.lst (L.map rowD)] = .ok (.int ((uqG [] L).length : Nat)) := by
  show (if (L.map rowD).all okKey = true ∧ (L.map rowD).length ≤ 60 then R.ok (D.int ((dedP (toPs (L.map rowD))).length : Nat)) else .bad) = _
  rw [if_pos ⟨rows_ok L, by rw [List.length_map]; exact h⟩, ded_len]
theorem l_setC {L : List (List Int)} (h : L.length ≤ 60) : lenSetTP [clD L] = .ok (.int ((uqG [] L).length : Nat)) := by
  show (if (L.map rowD).all okKey = true ∧ (L.map rowD).length ≤ 60 then R.ok (D.int ((dedP (toPs (L.map rowD))).length : Nat)) else .bad) = _
  rw [if_pos ⟨rows_ok L, by rw [List.length_map]; exact h⟩, ded_len]
theorem l_setI {ns : List Int} (h : ns.length ≤ 64) : lenSetIT [rowD ns] = .ok (.int ((dedI ns).length : Nat)) := by
  show ofInts _ (ns.map D.int) = _
  unfold ofInts
  rw [intsD_map]
  exact if_pos h
theorem mxK_lt {b : Int} {kk : Nat → Int} (h0 : 0 < b) : ∀ i, (∀ j, j < i → kk j < b) → mxK 0 kk i < b
  | 0, _ => h0
  | i + 1, h => by
    have ih := mxK_lt h0 i fun j hj => h j (by omega)
    rw [mxK]
    split
    · exact h 0 (by omega)
    · split
      · exact h i (by omega)
      · exact ih
theorem l_maxd (t : List Int) : maxd0 [rowD t] = .ok (.int (mxK 0 (fun i => t.getD i 0) t.length)) := by
  show ofInts _ (t.map D.int) = _
  unfold ofInts
  rw [intsD_map]
theorem firsts_is (L : List (List Int)) : uqG [] (L.map fun c => ((ix c (uqG [] L) : Nat) : Int)) = (List.range (uqG [] L).length).map fun k => ((k : Nat) : Int) := by
  have e := uq_map (fun c => ((ix c (uqG [] L) : Nat) : Int)) L [] fun a b ha hb h => by
    have ha : a ∈ uqG [] L := uq_sub.mpr (ha.resolve_left fun z => nomatch z)
    have hb : b ∈ uqG [] L := uq_sub.mpr (hb.resolve_left fun z => nomatch z)
    have h : ((ix a (uqG [] L) : Nat) : Int) = ((ix b (uqG [] L) : Nat) : Int) := h
    exact ix_inj ha hb (by omega)
  rw [List.map_nil] at e
  rw [e, ← ix_range (uq_nd L [] List.nodup_nil), List.map_map]
  rfl
theorem ran_is (m : Nat) : D.lst (rangeD 0 ((m : Nat) : Int).toNat) = lsD ((List.range m).map fun k => ((k : Nat) : Int)) := by
  unfold lsD rangeD
  rw [Int.toNat_natCast, List.map_map]
  refine congrArg D.lst (List.map_congr_left fun k _ => ?_)
  show D.int (0 + (k : Int)) = D.int (k : Int)
  rw [Int.zero_add]
theorem mid (hR : Rect rows n) (hb : ∀ r ∈ rows, ∀ b ∈ r, b = 0 ∨ b = 1) {ns thr trd : List Int} {ties : List (List Int)} (h1 : thr.length ≤ 64) (h2 : trd.length ≤ 64)
    (hq : cellM ns 0 % 2 = 1 ∨ ((uqG [] (colsM rows n)).length ≤ (dedI thr).length ∧ (uqG [] rows).length ≤ (dedI trd).length)) :
    Go (kontL [some (.scr ns), some (loomD thr ties trd), some (clD rows), none, none, none, none, none]) (fun f => f = .rt (.bl true)) := by
  have r1 := hR.r1
  have r16 := hR.r16
  have n1 := hR.n1
  have n16 := hR.n16
  have L := leastL_ok hR
  have cl := cols_len (rows := rows) (n := n)
  have ul := uq_len rows
  have uc := uq_len (colsM rows n)
  have wv := d_lwoven L
  rw [least_wov hR hb] at wv
  have tl : (tiesL rows n).length = (uqG [] rows).length := by unfold tiesL; rw [List.length_map]
  have rl : (trdL rows).length = rows.length := by unfold trdL; rw [List.length_map]
  have thl := thr_lenL (rows := rows) (n := n)
  unfold kontL
  refine w_set (v_fn (v_cons (v_var rfl) v_nil) (d_least hR)) ?_
  refine w_if (b := false) (v_eqT (v_tor (b := false) (c := false) (v_tst (v_2 (v_fn (v_cons (v_var rfl) v_nil) (d_chk (n := 0) (fit_loom _ _ _) L.short L.is)) (v_var rfl) (l_neS (fit_mono (fit_loom _ _ _) (by decide))))) fun _ => v_tst (v_2 (v_fn (v_cons (v_var rfl) v_nil) wv) (v_var rfl) (l_neS (fit_mono (fit_cl _) (by decide))))) rfl) (fun z => nomatch z) fun _ => w_nil ?_
  refine w_asg (v_var rfl) rfl ?_
  refine w_set (d := .int ((uqG [] (colsM rows n)).length : Nat)) (v_fn (v_cons (v_lc (es := (colsM rows n).map rowD) (v_it (v_cons (v_wideR hR rfl) v_nil) (l_ran1 (by omega) (by omega))) (by rw [rangeD_len]; omega) ?_) v_nil) (l_setL (by omega))) ?_
  · unfold rangeD colsM
    rw [Int.toNat_natCast, List.map_map]
    refine lcD_mapE fun k hk => ⟨_, rfl, rfl, v_eq (v_fn (v_cons (v_lc (v_items (v_var rfl) rfl) (by rw [List.length_map]; omega) (lcD_mapE (h := fun r => .int (r.getD k 0)) fun r hr => ⟨_, rfl, rfl, v_2 (v_var rfl) (v_var rfl) ?_⟩)) v_nil) rfl) ?_⟩
    · have hk := List.mem_range.mp hk
      have e := bit_at (r := r) (k := (k : Nat)) (by omega) (by rw [hR.all r hr]; omega)
      rw [Int.toNat_natCast] at e
      rw [Int.zero_add]
      exact e
    · show D.tup (rows.map fun r => D.int (r.getD k 0)) = rowD (colM rows k)
      unfold rowD colM
      rw [List.map_map]
      rfl
  have f1 : m__law_firsts [rowD (thrL rows n)] = .ok (.lst (rangeD 0 (((uqG [] (colsM rows n)).length : Nat) : Int).toNat)) := by
    rw [d_firsts (by omega), ran_is, ← firsts_is]
    rfl
  have f2 : m__law_firsts [rowD (trdL rows)] = .ok (.lst (rangeD 0 (((uqG [] rows).length : Nat) : Int).toNat)) := by
    rw [d_firsts (by omega), ran_is, ← firsts_is]
    rfl
  have fr : ∀ m : Nat, fit 8 (D.lst (rangeD 0 ((m : Nat) : Int).toNat)) = true := fun m => by
    rw [ran_is]
    exact fit_mono (fit_ls _) (by decide)
  refine w_if (b := false) (v_eqT (v_tor (b := false) (c := false) (v_tst (v_2 (v_fn (v_cons (v_var rfl) v_nil) f1) (v_lstRan (v_var rfl) (by omega) (by omega)) (l_neS (fr _)))) fun _ => v_tst (v_2 (v_fn (v_cons (v_var rfl) v_nil) f2) (v_lstRan (v_fn (v_cons (v_var rfl) v_nil) (l_setC (by omega))) (by omega) (by omega)) (l_neS (fr _)))) rfl) (fun z => nomatch z) fun _ => w_nil ?_
  have nn : (uqG [] (colsM rows n)) ≠ [] := fun e => by
    have : colM rows 0 ∈ uqG [] (colsM rows n) := uq_sub.mpr (List.mem_map_of_mem (List.mem_range.mpr (by omega)))
    rw [e] at this
    cases this
  have np := List.length_pos_iff.mpr nn
  have small : ∀ t ∈ tiesL rows n, mxK 0 (fun i => t.getD i 0) t.length < ((uqG [] (colsM rows n)).length : Int) := fun t ht => by
    obtain ⟨r, hr, rfl⟩ := List.mem_map.mp ht
    refine mxK_lt (by omega) _ fun j hj => ?_
    rw [List.getD_eq_getElem?_getD, List.getElem?_eq_getElem hj]
    obtain ⟨i, hi, _⟩ := lift_mem.mp (List.getElem_mem hj)
    exact (thr_mem (List.mem_of_getElem? hi)).2
  have lenE : lenD [clD (tiesL rows n)] = .ok (.int ((uqG [] rows).length : Nat)) := by
    show R.ok (D.int (((tiesL rows n).map rowD).length : Nat)) = _
    rw [List.length_map, tl]
  refine w_if (b := false) (v_eqT (v_tor (b := false) (c := false) (v_tst (v_eq (v_2 (v_fn (v_cons (v_var rfl) v_nil) lenE) (v_fn (v_cons (v_var rfl) v_nil) (l_setC (by omega))) (l_neI _ _)) (by rw [decide_eq_true rfl]; rfl))) fun _ => v_tst (v_2 (v_lc (es := ((tiesL rows n).filter fun _ => false).map rowD) (v_items (v_var rfl) rfl) (by rw [List.length_map]; omega) (lcD_filterE fun t ht => ⟨_, rfl, v_tst (v_eq (v_2 (v_fn (v_cons (v_var rfl) v_nil) (l_maxd t)) (v_var rfl) rfl) (by rw [decide_eq_false (by have := small t ht; omega)])), fun z => nomatch z⟩)) (v_lst v_nil (Nat.le_of_ble_eq_true rfl)) ?_)) rfl) (fun z => nomatch z) fun _ => w_nil ?_
  · rw [show (tiesL rows n).filter (fun _ => false) = [] from List.filter_eq_nil_iff.mpr fun _ _ => Bool.false_ne_true, List.map_nil]
    exact l_neS rfl
  refine w_if (b := decide (cellM ns 0 % 2 = 1)) (v_tst (v_2 (v_2 (v_fn (v_cons (v_var rfl) (v_cons v_c v_nil)) (d_cell (by decide))) v_c (l_mod (by decide))) v_c (l_eqI _ _))) (fun _ => w_seqret v_c rfl) fun q => w_nil ?_
  obtain ⟨q1, q2⟩ := hq.resolve_left (of_decide_eq_false q)
  refine w_ret (v_and (b := true) (c := true) (v_eq (v_2 (v_fn (v_cons (v_2 (v_var rfl) v_c (l_ixT (atI_nat (j := 0) rfl))) v_nil) (l_setI h1)) (v_var rfl) rfl) (by rw [decide_eq_true (by omega)])) fun _ => v_eq (v_2 (v_fn (v_cons (v_2 (v_var rfl) v_c (l_ixT (atI_nat (j := 2) rfl))) v_nil) (l_setI h2)) (v_fn (v_cons (v_var rfl) v_nil) lenE) rfl) (by rw [decide_eq_true (by omega)])) rfl
end
def wovL (thr : List Int) (ties : List (List Int)) (trd : List Int) : List (List Int) := trd.map fun k => thr.map fun s => litI s (ties.getD k.toNat [])
theorem wov_cl (thr : List Int) (ties : List (List Int)) (trd : List Int) : clothD thr ties trd = clD (wovL thr ties trd) := by
  unfold clothD clD wovL
  rw [List.map_map, List.map_map]
  rfl
theorem wov_rect {thr trd : List Int} {ties : List (List Int)} (h : Loom thr ties trd) : Rect (wovL thr ties trd) thr.length :=
  ⟨by unfold wovL; rw [List.length_map]; exact h.c1, by unfold wovL; rw [List.length_map]; exact h.c16, h.a1, h.a16, fun r hr => by
    obtain ⟨k, _, rfl⟩ := List.mem_map.mp hr
    rw [List.length_map]⟩
theorem wov_bit {thr trd : List Int} {ties : List (List Int)} : ∀ r ∈ wovL thr ties trd, ∀ b ∈ r, b = 0 ∨ b = 1 := fun r hr b hb => by
  obtain ⟨k, _, rfl⟩ := List.mem_map.mp hr
  obtain ⟨s, _, rfl⟩ := List.mem_map.mp hb
  unfold litI
  split
  · exact .inr rfl
  · exact .inl rfl
theorem wov_few {thr trd : List Int} {ties : List (List Int)} : (uqG [] (colsM (wovL thr ties trd) thr.length)).length ≤ (dedI thr).length ∧ (uqG [] (wovL thr ties trd)).length ≤ (dedI trd).length := by
  constructor
  · have := nodup_len (m := (dedI thr).map fun s => trd.map fun k => litI s (ties.getD k.toNat [])) (uq_nd (colsM (wovL thr ties trd) thr.length) [] List.nodup_nil) fun c hc => by
      obtain ⟨j, hj, rfl⟩ := List.mem_map.mp (uq_sub.mp hc)
      have hj := List.mem_range.mp hj
      refine List.mem_map.mpr ⟨thr[j], (dedI_mem _ _).mpr (List.getElem_mem hj), ?_⟩
      unfold colM wovL
      rw [List.map_map]
      refine List.map_congr_left fun k _ => ?_
      show litI thr[j] (ties.getD k.toNat []) = (thr.map fun s => litI s (ties.getD k.toNat [])).getD j 0
      generalize ties.getD k.toNat [] = tt
      rw [List.getD_eq_getElem?_getD, List.getElem?_map, List.getElem?_eq_getElem hj]
      rfl
    rw [List.length_map] at this
    exact this
  · have := nodup_len (m := (dedI trd).map fun k => thr.map fun s => litI s (ties.getD k.toNat [])) (uq_nd (wovL thr ties trd) [] List.nodup_nil) fun r hr => by
      obtain ⟨k, hk, rfl⟩ := List.mem_map.mp (uq_sub.mp hr)
      exact List.mem_map.mpr ⟨k, (dedI_mem _ _).mpr hk, rfl⟩
    rw [List.length_map] at this
    exact this
theorem law_true (ns : List Int) (_ : ns.length ≤ 63) : m_law [.scr ns] = .ok (.bl true) := by
  have H := loomM_ok ns 2
  have dl := d_lloom (ns := ns) (k := 2) (by decide)
  generalize thrM ns 2 (shM ns 2) (sizeM (cellM ns 2)).toNat = thr at H dl
  generalize tiesM ns 2 (shM ns 2).toNat (trM ns 2).toNat = ties at H dl
  generalize trdM ns 2 (trM ns 2) (sizeM (cellM ns (2 + 1))).toNat = trd at H dl
  have wv := d_lwoven H
  rw [wov_cl] at wv
  have a16 := H.a16
  have c16 := H.c16
  refine w_run (w_set (v_fn (v_cons (v_var rfl) (v_cons v_c v_nil)) dl) (w_set (v_fn (v_cons (v_var rfl) v_nil) wv) ?_))
  refine w_if (b := decide (cellM ns 0 % 2 = 1)) (v_tst (v_2 (v_2 (v_fn (v_cons (v_var rfl) (v_cons v_c v_nil)) (d_cell (by decide))) v_c (l_mod (by decide))) v_c (l_eqI _ _))) (fun q => ?_) fun q => w_nil ?_
  · have C := clothM_ok ns 1
    refine w_set (v_fn (v_cons (v_var rfl) (v_cons v_c v_nil)) (d_cloth (by decide))) ?_
    exact mid C.rect C.bit (by omega) (by omega) (.inl (of_decide_eq_true q))
  · exact mid (wov_rect H) wov_bit (by omega) (by omega) (.inr wov_few)
end DL
namespace DL
open PySem L2 Wv
set_option maxHeartbeats 4000000 in
theorem all_mk {l : PySem.W.OpenLaw} {w : World} {K : PySem.W.Frag} {h : Heap} {mg : Str → Option Value} {fa : Addr} (X : K.In h) (G : h.Ns mainGlobals mg) (hfa : mg "law" = some (.ref fa))
    {fq0 : Addr} {odq0 anq0 : Option Addr} {slq0 : Array (Option Value)} {ocq0 kVq0 dcq0 pmq0 cdq0 ctq0 : Value}
    {fq1 : Addr} {odq1 anq1 : Option Addr} {slq1 : Array (Option Value)} {ocq1 kVq1 dcq1 pmq1 cdq1 ctq1 : Value}
    {fq2 : Addr} {odq2 anq2 : Option Addr} {slq2 : Array (Option Value)} {ocq2 kVq2 dcq2 pmq2 cdq2 ctq2 : Value}
    {fq3 : Addr} {odq3 anq3 : Option Addr} {slq3 : Array (Option Value)} {ocq3 kVq3 dcq3 pmq3 cdq3 ctq3 : Value}
    {fq4 : Addr} {odq4 anq4 : Option Addr} {slq4 : Array (Option Value)} {ocq4 kVq4 dcq4 pmq4 cdq4 ctq4 : Value}
    {fq5 : Addr} {odq5 anq5 : Option Addr} {slq5 : Array (Option Value)} {ocq5 kVq5 dcq5 pmq5 cdq5 ctq5 : Value}
    {fq6 : Addr} {odq6 anq6 : Option Addr} {slq6 : Array (Option Value)} {ocq6 kVq6 dcq6 pmq6 cdq6 ctq6 : Value}
    {fq7 : Addr} {odq7 anq7 : Option Addr} {slq7 : Array (Option Value)} {ocq7 kVq7 dcq7 pmq7 cdq7 ctq7 : Value}
    {fq8 : Addr} {odq8 anq8 : Option Addr} {slq8 : Array (Option Value)} {ocq8 kVq8 dcq8 pmq8 cdq8 ctq8 : Value}
    {fq9 : Addr} {odq9 anq9 : Option Addr} {slq9 : Array (Option Value)} {ocq9 kVq9 dcq9 pmq9 cdq9 ctq9 : Value}
    {fq10 : Addr} {odq10 anq10 : Option Addr} {slq10 : Array (Option Value)} {ocq10 kVq10 dcq10 pmq10 cdq10 ctq10 : Value}
    {fq11 : Addr} {odq11 anq11 : Option Addr} {slq11 : Array (Option Value)} {ocq11 kVq11 dcq11 pmq11 cdq11 ctq11 : Value}
    {fq12 : Addr} {odq12 anq12 : Option Addr} {slq12 : Array (Option Value)} {ocq12 kVq12 dcq12 pmq12 cdq12 ctq12 : Value}
    {fq13 : Addr} {odq13 anq13 : Option Addr} {slq13 : Array (Option Value)} {ocq13 kVq13 dcq13 pmq13 cdq13 ctq13 : Value}
    {fq14 : Addr} {odq14 anq14 : Option Addr} {slq14 : Array (Option Value)} {ocq14 kVq14 dcq14 pmq14 cdq14 ctq14 : Value}
    {fq15 : Addr} {odq15 anq15 : Option Addr} {slq15 : Array (Option Value)} {ocq15 kVq15 dcq15 pmq15 cdq15 ctq15 : Value}
    {fq16 : Addr} {odq16 anq16 : Option Addr} {slq16 : Array (Option Value)} {ocq16 kVq16 dcq16 pmq16 cdq16 ctq16 : Value}
    {fq17 : Addr} {odq17 anq17 : Option Addr} {slq17 : Array (Option Value)} {ocq17 kVq17 dcq17 pmq17 cdq17 ctq17 : Value}
    {fq18 : Addr} {odq18 anq18 : Option Addr} {slq18 : Array (Option Value)} {ocq18 kVq18 dcq18 pmq18 cdq18 ctq18 : Value}
    {fq19 : Addr} {odq19 anq19 : Option Addr} {slq19 : Array (Option Value)} {ocq19 kVq19 dcq19 pmq19 cdq19 ctq19 : Value}
    {tkMOST : Tok}
    {aBadLoom : Addr}
    (aq0 : PySem.W.nsIn K mainGlobals "is_number_below" = some (some (.ref fq0)))
    (lq0 : K.lookup fq0 = some ⟨ocq0, odq0, .func (PySem.W.fnOf "is_number_below" "is_number_below" (defArgs s_is_number_below) (defBody s_is_number_below) (defScope s_is_number_below) .none kVq0 dcq0 pmq0 anq0 cdq0 ctq0), slq0⟩)
    (cq0 : PySem.W.codeIn K cdq0 "is_number_below" = true)
    (kq0 : PySem.W.keepIn K (.ref fq0) = true)
    (aq1 : PySem.W.nsIn K mainGlobals "are_numbers_below" = some (some (.ref fq1)))
    (lq1 : K.lookup fq1 = some ⟨ocq1, odq1, .func (PySem.W.fnOf "are_numbers_below" "are_numbers_below" (defArgs s_are_numbers_below) (defBody s_are_numbers_below) (defScope s_are_numbers_below) .none kVq1 dcq1 pmq1 anq1 cdq1 ctq1), slq1⟩)
    (cq1 : PySem.W.codeIn K cdq1 "are_numbers_below" = true)
    (kq1 : PySem.W.keepIn K (.ref fq1) = true)
    (aq2 : PySem.W.nsIn K mainGlobals "is_tuple_in_bounds" = some (some (.ref fq2)))
    (lq2 : K.lookup fq2 = some ⟨ocq2, odq2, .func (PySem.W.fnOf "is_tuple_in_bounds" "is_tuple_in_bounds" (defArgs s_is_tuple_in_bounds) (defBody s_is_tuple_in_bounds) (defScope s_is_tuple_in_bounds) .none kVq2 dcq2 pmq2 anq2 cdq2 ctq2), slq2⟩)
    (cq2 : PySem.W.codeIn K cdq2 "is_tuple_in_bounds" = true)
    (kq2 : PySem.W.keepIn K (.ref fq2) = true)
    (aq3 : PySem.W.nsIn K mainGlobals "is_row_of_numbers_below" = some (some (.ref fq3)))
    (lq3 : K.lookup fq3 = some ⟨ocq3, odq3, .func (PySem.W.fnOf "is_row_of_numbers_below" "is_row_of_numbers_below" (defArgs s_is_row_of_numbers_below) (defBody s_is_row_of_numbers_below) (defScope s_is_row_of_numbers_below) .none kVq3 dcq3 pmq3 anq3 cdq3 ctq3), slq3⟩)
    (cq3 : PySem.W.codeIn K cdq3 "is_row_of_numbers_below" = true)
    (kq3 : PySem.W.keepIn K (.ref fq3) = true)
    (aq4 : PySem.W.nsIn K mainGlobals "column" = some (some (.ref fq4)))
    (lq4 : K.lookup fq4 = some ⟨ocq4, odq4, .func (PySem.W.fnOf "column" "column" (defArgs s_column) (defBody s_column) (defScope s_column) .none kVq4 dcq4 pmq4 anq4 cdq4 ctq4), slq4⟩)
    (cq4 : PySem.W.codeIn K cdq4 "column" = true)
    (kq4 : PySem.W.keepIn K (.ref fq4) = true)
    (aq5 : PySem.W.nsIn K mainGlobals "columns" = some (some (.ref fq5)))
    (lq5 : K.lookup fq5 = some ⟨ocq5, odq5, .func (PySem.W.fnOf "columns" "columns" (defArgs s_columns) (defBody s_columns) (defScope s_columns) .none kVq5 dcq5 pmq5 anq5 cdq5 ctq5), slq5⟩)
    (cq5 : PySem.W.codeIn K cdq5 "columns" = true)
    (kq5 : PySem.W.keepIn K (.ref fq5) = true)
    (aq6 : PySem.W.nsIn K mainGlobals "is_tie" = some (some (.ref fq6)))
    (lq6 : K.lookup fq6 = some ⟨ocq6, odq6, .func (PySem.W.fnOf "is_tie" "is_tie" (defArgs s_is_tie) (defBody s_is_tie) (defScope s_is_tie) .none kVq6 dcq6 pmq6 anq6 cdq6 ctq6), slq6⟩)
    (cq6 : PySem.W.codeIn K cdq6 "is_tie" = true)
    (kq6 : PySem.W.keepIn K (.ref fq6) = true)
    (aq7 : PySem.W.nsIn K mainGlobals "is_loom" = some (some (.ref fq7)))
    (lq7 : K.lookup fq7 = some ⟨ocq7, odq7, .func (PySem.W.fnOf "is_loom" "is_loom" (defArgs s_is_loom) (defBody s_is_loom) (defScope s_is_loom) .none kVq7 dcq7 pmq7 anq7 cdq7 ctq7), slq7⟩)
    (cq7 : PySem.W.codeIn K cdq7 "is_loom" = true)
    (kq7 : PySem.W.keepIn K (.ref fq7) = true)
    (aq8 : PySem.W.nsIn K mainGlobals "checked_loom" = some (some (.ref fq8)))
    (lq8 : K.lookup fq8 = some ⟨ocq8, odq8, .func (PySem.W.fnOf "checked_loom" "checked_loom" (defArgs s_checked_loom) (defBody s_checked_loom) (defScope s_checked_loom) .none kVq8 dcq8 pmq8 anq8 cdq8 ctq8), slq8⟩)
    (cq8 : PySem.W.codeIn K cdq8 "checked_loom" = true)
    (kq8 : PySem.W.keepIn K (.ref fq8) = true)
    (aq9 : PySem.W.nsIn K mainGlobals "numbers_by_first_standing" = some (some (.ref fq9)))
    (lq9 : K.lookup fq9 = some ⟨ocq9, odq9, .func (PySem.W.fnOf "numbers_by_first_standing" "numbers_by_first_standing" (defArgs s_numbers_by_first_standing) (defBody s_numbers_by_first_standing) (defScope s_numbers_by_first_standing) .none kVq9 dcq9 pmq9 anq9 cdq9 ctq9), slq9⟩)
    (cq9 : PySem.W.codeIn K cdq9 "numbers_by_first_standing" = true)
    (kq9 : PySem.W.keepIn K (.ref fq9) = true)
    (aq10 : PySem.W.nsIn K mainGlobals "lifted_shafts" = some (some (.ref fq10)))
    (lq10 : K.lookup fq10 = some ⟨ocq10, odq10, .func (PySem.W.fnOf "lifted_shafts" "lifted_shafts" (defArgs s_lifted_shafts) (defBody s_lifted_shafts) (defScope s_lifted_shafts) .none kVq10 dcq10 pmq10 anq10 cdq10 ctq10), slq10⟩)
    (cq10 : PySem.W.codeIn K cdq10 "lifted_shafts" = true)
    (kq10 : PySem.W.keepIn K (.ref fq10) = true)
    (aq11 : PySem.W.nsIn K mainGlobals "least_loom" = some (some (.ref fq11)))
    (lq11 : K.lookup fq11 = some ⟨ocq11, odq11, .func (PySem.W.fnOf "least_loom" "least_loom" (defArgs s_least_loom) (defBody s_least_loom) (defScope s_least_loom) .none kVq11 dcq11 pmq11 anq11 cdq11 ctq11), slq11⟩)
    (cq11 : PySem.W.codeIn K cdq11 "least_loom" = true)
    (kq11 : PySem.W.keepIn K (.ref fq11) = true)
    (aq12 : PySem.W.nsIn K mainGlobals "_law_cell" = some (some (.ref fq12)))
    (lq12 : K.lookup fq12 = some ⟨ocq12, odq12, .func (PySem.W.fnOf "_law_cell" "_law_cell" (defArgs s__law_cell) (defBody s__law_cell) (defScope s__law_cell) .none kVq12 dcq12 pmq12 anq12 cdq12 ctq12), slq12⟩)
    (cq12 : PySem.W.codeIn K cdq12 "_law_cell" = true)
    (kq12 : PySem.W.keepIn K (.ref fq12) = true)
    (aq13 : PySem.W.nsIn K mainGlobals "_law_mix" = some (some (.ref fq13)))
    (lq13 : K.lookup fq13 = some ⟨ocq13, odq13, .func (PySem.W.fnOf "_law_mix" "_law_mix" (defArgs s__law_mix) (defBody s__law_mix) (defScope s__law_mix) .none kVq13 dcq13 pmq13 anq13 cdq13 ctq13), slq13⟩)
    (cq13 : PySem.W.codeIn K cdq13 "_law_mix" = true)
    (kq13 : PySem.W.keepIn K (.ref fq13) = true)
    (aq14 : PySem.W.nsIn K mainGlobals "_law_size" = some (some (.ref fq14)))
    (lq14 : K.lookup fq14 = some ⟨ocq14, odq14, .func (PySem.W.fnOf "_law_size" "_law_size" (defArgs s__law_size) (defBody s__law_size) (defScope s__law_size) .none kVq14 dcq14 pmq14 anq14 cdq14 ctq14), slq14⟩)
    (cq14 : PySem.W.codeIn K cdq14 "_law_size" = true)
    (kq14 : PySem.W.keepIn K (.ref fq14) = true)
    (aq15 : PySem.W.nsIn K mainGlobals "_law_cloth" = some (some (.ref fq15)))
    (lq15 : K.lookup fq15 = some ⟨ocq15, odq15, .func (PySem.W.fnOf "_law_cloth" "_law_cloth" (defArgs s__law_cloth) (defBody s__law_cloth) (defScope s__law_cloth) .none kVq15 dcq15 pmq15 anq15 cdq15 ctq15), slq15⟩)
    (cq15 : PySem.W.codeIn K cdq15 "_law_cloth" = true)
    (kq15 : PySem.W.keepIn K (.ref fq15) = true)
    (aq16 : PySem.W.nsIn K mainGlobals "_law_loom" = some (some (.ref fq16)))
    (lq16 : K.lookup fq16 = some ⟨ocq16, odq16, .func (PySem.W.fnOf "_law_loom" "_law_loom" (defArgs s__law_loom) (defBody s__law_loom) (defScope s__law_loom) .none kVq16 dcq16 pmq16 anq16 cdq16 ctq16), slq16⟩)
    (cq16 : PySem.W.codeIn K cdq16 "_law_loom" = true)
    (kq16 : PySem.W.keepIn K (.ref fq16) = true)
    (aq17 : PySem.W.nsIn K mainGlobals "_law_woven" = some (some (.ref fq17)))
    (lq17 : K.lookup fq17 = some ⟨ocq17, odq17, .func (PySem.W.fnOf "_law_woven" "_law_woven" (defArgs s__law_woven) (defBody s__law_woven) (defScope s__law_woven) .none kVq17 dcq17 pmq17 anq17 cdq17 ctq17), slq17⟩)
    (cq17 : PySem.W.codeIn K cdq17 "_law_woven" = true)
    (kq17 : PySem.W.keepIn K (.ref fq17) = true)
    (aq18 : PySem.W.nsIn K mainGlobals "_law_firsts" = some (some (.ref fq18)))
    (lq18 : K.lookup fq18 = some ⟨ocq18, odq18, .func (PySem.W.fnOf "_law_firsts" "_law_firsts" (defArgs s__law_firsts) (defBody s__law_firsts) (defScope s__law_firsts) .none kVq18 dcq18 pmq18 anq18 cdq18 ctq18), slq18⟩)
    (cq18 : PySem.W.codeIn K cdq18 "_law_firsts" = true)
    (kq18 : PySem.W.keepIn K (.ref fq18) = true)
    (aq19 : PySem.W.nsIn K mainGlobals "law" = some (some (.ref fq19)))
    (lq19 : K.lookup fq19 = some ⟨ocq19, odq19, .func (PySem.W.fnOf "law" "law" (defArgs s_law) (defBody s_law) (defScope s_law) .none kVq19 dcq19 pmq19 anq19 cdq19 ctq19), slq19⟩)
    (cq19 : PySem.W.codeIn K cdq19 "law" = true)
    (kq19 : PySem.W.keepIn K (.ref fq19) = true)
    (z_all : PySem.W.nsIn K mainGlobals "all" = some none)
    (z_bool : PySem.W.nsIn K mainGlobals "bool" = some none)
    (z_int : PySem.W.nsIn K mainGlobals "int" = some none)
    (z_isinstance : PySem.W.nsIn K mainGlobals "isinstance" = some none)
    (z_len : PySem.W.nsIn K mainGlobals "len" = some none)
    (z_list : PySem.W.nsIn K mainGlobals "list" = some none)
    (z_max : PySem.W.nsIn K mainGlobals "max" = some none)
    (z_range : PySem.W.nsIn K mainGlobals "range" = some none)
    (z_set : PySem.W.nsIn K mainGlobals "set" = some none)
    (z_sorted : PySem.W.nsIn K mainGlobals "sorted" = some none)
    (z_tuple : PySem.W.nsIn K mainGlobals "tuple" = some none)
    (z_zip : PySem.W.nsIn K mainGlobals "zip" = some none)
    (g_MOST : PySem.W.nsIn K mainGlobals "MOST" = some (some (Value.int 16 tkMOST)))
    (e_BadLoom : PySem.W.nsIn K mainGlobals "BadLoom" = some (some (.ref aBadLoom)))
    (x_BadLoom : PySem.W.excIn K aBadLoom [.type "ValueError", .type "Exception", .type "BaseException", .type "object"] "ValueError.__new__" = true) :
    ∃ fd : FuncData, (∀ (s : Shared) (v : Value), BindsTo s fd ⟨[v], []⟩ [("_law_script", v)]) ∧ ∀ base : Heap, K.In base → base.Ns mainGlobals mg → FnOk l.prog w K mg base (CX1 l.prog w) 6 fa fd ["_law_script"] (spLaw K) := by
  have e := hfa.symm.trans (PySem.W.mg_of X G aq19)
  cases e
  have Fq0 := fun_mk (st := s_is_number_below) lq0 cq0 kq0
  have Dq0 : DefOk K mg "is_number_below" s_is_number_below ["thing", "bound"] fq0 _ := ⟨Fq0, Fq0.binds (ps := ["thing", "bound"]) fun _ _ _ _ _ _ us hl => match us, hl with | [_, _], _ => rfl, PySem.W.mg_of X G aq0⟩
  have Fq1 := fun_mk (st := s_are_numbers_below) lq1 cq1 kq1
  have Dq1 : DefOk K mg "are_numbers_below" s_are_numbers_below ["things", "bound"] fq1 _ := ⟨Fq1, Fq1.binds (ps := ["things", "bound"]) fun _ _ _ _ _ _ us hl => match us, hl with | [_, _], _ => rfl, PySem.W.mg_of X G aq1⟩
  have Fq2 := fun_mk (st := s_is_tuple_in_bounds) lq2 cq2 kq2
  have Dq2 : DefOk K mg "is_tuple_in_bounds" s_is_tuple_in_bounds ["thing"] fq2 _ := ⟨Fq2, Fq2.binds (ps := ["thing"]) fun _ _ _ _ _ _ us hl => match us, hl with | [_], _ => rfl, PySem.W.mg_of X G aq2⟩
  have Fq3 := fun_mk (st := s_is_row_of_numbers_below) lq3 cq3 kq3
  have Dq3 : DefOk K mg "is_row_of_numbers_below" s_is_row_of_numbers_below ["thing", "bound"] fq3 _ := ⟨Fq3, Fq3.binds (ps := ["thing", "bound"]) fun _ _ _ _ _ _ us hl => match us, hl with | [_, _], _ => rfl, PySem.W.mg_of X G aq3⟩
  have Fq4 := fun_mk (st := s_column) lq4 cq4 kq4
  have Dq4 : DefOk K mg "column" s_column ["cloth", "number"] fq4 _ := ⟨Fq4, Fq4.binds (ps := ["cloth", "number"]) fun _ _ _ _ _ _ us hl => match us, hl with | [_, _], _ => rfl, PySem.W.mg_of X G aq4⟩
  have Fq5 := fun_mk (st := s_columns) lq5 cq5 kq5
  have Dq5 : DefOk K mg "columns" s_columns ["cloth"] fq5 _ := ⟨Fq5, Fq5.binds (ps := ["cloth"]) fun _ _ _ _ _ _ us hl => match us, hl with | [_], _ => rfl, PySem.W.mg_of X G aq5⟩
  have Fq6 := fun_mk (st := s_is_tie) lq6 cq6 kq6
  have Dq6 : DefOk K mg "is_tie" s_is_tie ["thing"] fq6 _ := ⟨Fq6, Fq6.binds (ps := ["thing"]) fun _ _ _ _ _ _ us hl => match us, hl with | [_], _ => rfl, PySem.W.mg_of X G aq6⟩
  have Fq7 := fun_mk (st := s_is_loom) lq7 cq7 kq7
  have Dq7 : DefOk K mg "is_loom" s_is_loom ["thing"] fq7 _ := ⟨Fq7, Fq7.binds (ps := ["thing"]) fun _ _ _ _ _ _ us hl => match us, hl with | [_], _ => rfl, PySem.W.mg_of X G aq7⟩
  have Fq8 := fun_mk (st := s_checked_loom) lq8 cq8 kq8
  have Dq8 : DefOk K mg "checked_loom" s_checked_loom ["loom"] fq8 _ := ⟨Fq8, Fq8.binds (ps := ["loom"]) fun _ _ _ _ _ _ us hl => match us, hl with | [_], _ => rfl, PySem.W.mg_of X G aq8⟩
  have Fq9 := fun_mk (st := s_numbers_by_first_standing) lq9 cq9 kq9
  have Dq9 : DefOk K mg "numbers_by_first_standing" s_numbers_by_first_standing ["lines"] fq9 _ := ⟨Fq9, Fq9.binds (ps := ["lines"]) fun _ _ _ _ _ _ us hl => match us, hl with | [_], _ => rfl, PySem.W.mg_of X G aq9⟩
  have Fq10 := fun_mk (st := s_lifted_shafts) lq10 cq10 kq10
  have Dq10 : DefOk K mg "lifted_shafts" s_lifted_shafts ["threading", "row"] fq10 _ := ⟨Fq10, Fq10.binds (ps := ["threading", "row"]) fun _ _ _ _ _ _ us hl => match us, hl with | [_, _], _ => rfl, PySem.W.mg_of X G aq10⟩
  have Fq11 := fun_mk (st := s_least_loom) lq11 cq11 kq11
  have Dq11 : DefOk K mg "least_loom" s_least_loom ["cloth"] fq11 _ := ⟨Fq11, Fq11.binds (ps := ["cloth"]) fun _ _ _ _ _ _ us hl => match us, hl with | [_], _ => rfl, PySem.W.mg_of X G aq11⟩
  have Fq12 := fun_mk (st := s__law_cell) lq12 cq12 kq12
  have Dq12 : DefOk K mg "_law_cell" s__law_cell ["_law_script", "_law_k"] fq12 _ := ⟨Fq12, Fq12.binds (ps := ["_law_script", "_law_k"]) fun _ _ _ _ _ _ us hl => match us, hl with | [_, _], _ => rfl, PySem.W.mg_of X G aq12⟩
  have Fq13 := fun_mk (st := s__law_mix) lq13 cq13 kq13
  have Dq13 : DefOk K mg "_law_mix" s__law_mix ["_law_cell_here", "_law_prime", "_law_many"] fq13 _ := ⟨Fq13, Fq13.binds (ps := ["_law_cell_here", "_law_prime", "_law_many"]) fun _ _ _ _ _ _ us hl => match us, hl with | [_, _, _], _ => rfl, PySem.W.mg_of X G aq13⟩
  have Fq14 := fun_mk (st := s__law_size) lq14 cq14 kq14
  have Dq14 : DefOk K mg "_law_size" s__law_size ["_law_cell_here"] fq14 _ := ⟨Fq14, Fq14.binds (ps := ["_law_cell_here"]) fun _ _ _ _ _ _ us hl => match us, hl with | [_], _ => rfl, PySem.W.mg_of X G aq14⟩
  have Fq15 := fun_mk (st := s__law_cloth) lq15 cq15 kq15
  have Dq15 : DefOk K mg "_law_cloth" s__law_cloth ["_law_script", "_law_at"] fq15 _ := ⟨Fq15, Fq15.binds (ps := ["_law_script", "_law_at"]) fun _ _ _ _ _ _ us hl => match us, hl with | [_, _], _ => rfl, PySem.W.mg_of X G aq15⟩
  have Fq16 := fun_mk (st := s__law_loom) lq16 cq16 kq16
  have Dq16 : DefOk K mg "_law_loom" s__law_loom ["_law_script", "_law_at"] fq16 _ := ⟨Fq16, Fq16.binds (ps := ["_law_script", "_law_at"]) fun _ _ _ _ _ _ us hl => match us, hl with | [_, _], _ => rfl, PySem.W.mg_of X G aq16⟩
  have Fq17 := fun_mk (st := s__law_woven) lq17 cq17 kq17
  have Dq17 : DefOk K mg "_law_woven" s__law_woven ["_law_loom_here"] fq17 _ := ⟨Fq17, Fq17.binds (ps := ["_law_loom_here"]) fun _ _ _ _ _ _ us hl => match us, hl with | [_], _ => rfl, PySem.W.mg_of X G aq17⟩
  have Fq18 := fun_mk (st := s__law_firsts) lq18 cq18 kq18
  have Dq18 : DefOk K mg "_law_firsts" s__law_firsts ["_law_row"] fq18 _ := ⟨Fq18, Fq18.binds (ps := ["_law_row"]) fun _ _ _ _ _ _ us hl => match us, hl with | [_], _ => rfl, PySem.W.mg_of X G aq18⟩
  have Fq19 := fun_mk (st := s_law) lq19 cq19 kq19
  have Dq19 : DefOk K mg "law" s_law ["_law_script"] _ _ := ⟨Fq19, Fq19.binds (ps := ["_law_script"]) fun _ _ _ _ _ _ us hl => match us, hl with | [_], _ => rfl, PySem.W.mg_of X G aq19⟩
  have T : Pr K mg w aBadLoom := ⟨PySem.W.mg_none_of X G z_all, PySem.W.mg_none_of X G z_bool, PySem.W.mg_none_of X G z_int, PySem.W.mg_none_of X G z_isinstance, PySem.W.mg_none_of X G z_len, PySem.W.mg_none_of X G z_list, PySem.W.mg_none_of X G z_max, PySem.W.mg_none_of X G z_range, PySem.W.mg_none_of X G z_set, PySem.W.mg_none_of X G z_sorted, PySem.W.mg_none_of X G z_tuple, PySem.W.mg_none_of X G z_zip, ⟨_, PySem.W.mg_of X G g_MOST⟩, PySem.W.mg_of X G e_BadLoom, ⟨x_BadLoom⟩, ⟨_, _, Dq0⟩, ⟨_, _, Dq1⟩, ⟨_, _, Dq2⟩, ⟨_, _, Dq3⟩, ⟨_, _, Dq4⟩, ⟨_, _, Dq5⟩, ⟨_, _, Dq6⟩, ⟨_, _, Dq7⟩, ⟨_, _, Dq8⟩, ⟨_, _, Dq9⟩, ⟨_, _, Dq10⟩, ⟨_, _, Dq11⟩, ⟨_, _, Dq12⟩, ⟨_, _, Dq13⟩, ⟨_, _, Dq14⟩, ⟨_, _, Dq15⟩, ⟨_, _, Dq16⟩, ⟨_, _, Dq17⟩, ⟨_, _, Dq18⟩⟩
  exact ⟨PySem.W.fnOf "law" "law" (defArgs s_law) (defBody s_law) (defScope s_law) .none kVq19 dcq19 pmq19 anq19 cdq19 ctq19, fun s v => .of_eq rfl, fun base _ _ => (fn_law T Dq19).imp (law_imp law_true)⟩
theorem walk {l : PySem.W.OpenLaw} {q : Program} {loose : List Str} {XP : (Str → Option Value) → Heap → Prop} {YP : World → Heap → Prop} {d : DefRec} {K : Params → PySem.W.Frag} (hn : l.most = some 63) (hdf : d.params.defaults = [])
    (hY : ∀ (w : World) (h : Heap), YP w h → (K w.params).In h)
    (F : ∀ (w : World) (mg : Str → Option Value) (fa : Addr) (h : Heap), (K w.params).In h → h.Ns mainGlobals mg → mg d.name = some (.ref fa) →
      ∃ fd : FuncData, (∀ (s : Shared) (u : Value), BindsTo s fd ⟨[u], []⟩ [("_law_script", u)]) ∧ ∀ base : Heap, (K w.params).In base → base.Ns mainGlobals mg → FnOk l.prog w (K w.params) mg base (CX1 l.prog w) 6 fa fd ["_law_script"] (spLaw (K w.params))) :
    PySem.W.WalkO q loose XP YP l.row.toRowW d [] (fun f vs => PySem.call f vs) :=
  L2.walk_of (n := 63) (k := 6) (x := "_law_script") (CX := fun w => CX1 l.prog w) (sp := fun w => spLaw (K w.params)) hn (by decide) hdf ⟨rfl, by decide, by decide⟩ hY F (fun _ _ a ns hl _ hS => ⟨a, ns, rfl, hS, hl, fun _ => rfl⟩) fun _ _ _ _ _ z => by
    obtain ⟨_, _, _, _, _, _, _, _, _, _, _, _, hw⟩ := z
    exact hw
end DL
open PySem PySem.W PyProof.Rows
set_option maxRecDepth 100000 in
set_option maxHeartbeats 0 in
theorem PySem.Challenge.cw_weavehall_k04_whole_least_looms_holds : PySem.Challenge.rw_weavehall_k04_whole_least_looms.Holds := by
  w_on; o_law; k_head; (case hw => w_witness2)
  k_fill
  refine DL.walk (l := PySem.Challenge.rw_weavehall_k04_whole_least_looms) rfl rfl (fun w h Y => PySem.W.kIn_of Y) ?F
  case F =>
    intro w mg fa h KX G hmg
    refine' DL.all_mk KX G hmg ?aq0 ?lq0 ?cq0 ?kq0 ?aq1 ?lq1 ?cq1 ?kq1 ?aq2 ?lq2 ?cq2 ?kq2 ?aq3 ?lq3 ?cq3 ?kq3 ?aq4 ?lq4 ?cq4 ?kq4 ?aq5 ?lq5 ?cq5 ?kq5 ?aq6 ?lq6 ?cq6 ?kq6 ?aq7 ?lq7 ?cq7 ?kq7 ?aq8 ?lq8 ?cq8 ?kq8 ?aq9 ?lq9 ?cq9 ?kq9 ?aq10 ?lq10 ?cq10 ?kq10 ?aq11 ?lq11 ?cq11 ?kq11 ?aq12 ?lq12 ?cq12 ?kq12 ?aq13 ?lq13 ?cq13 ?kq13 ?aq14 ?lq14 ?cq14 ?kq14 ?aq15 ?lq15 ?cq15 ?kq15 ?aq16 ?lq16 ?cq16 ?kq16 ?aq17 ?lq17 ?cq17 ?kq17 ?aq18 ?lq18 ?cq18 ?kq18 ?aq19 ?lq19 ?cq19 ?kq19 ?z_all ?z_bool ?z_int ?z_isinstance ?z_len ?z_list ?z_max ?z_range ?z_set ?z_sorted ?z_tuple ?z_zip ?g_MOST ?e_BadLoom ?x_BadLoom
    (case aq0 => k_is)
    (case lq0 => k_is)
    (case cq0 => k_is)
    (case kq0 => k_is)
    (case aq1 => k_is)
    (case lq1 => k_is)
    (case cq1 => k_is)
    (case kq1 => k_is)
    (case aq2 => k_is)
    (case lq2 => k_is)
    (case cq2 => k_is)
    (case kq2 => k_is)
    (case aq3 => k_is)
    (case lq3 => k_is)
    (case cq3 => k_is)
    (case kq3 => k_is)
    (case aq4 => k_is)
    (case lq4 => k_is)
    (case cq4 => k_is)
    (case kq4 => k_is)
    (case aq5 => k_is)
    (case lq5 => k_is)
    (case cq5 => k_is)
    (case kq5 => k_is)
    (case aq6 => k_is)
    (case lq6 => k_is)
    (case cq6 => k_is)
    (case kq6 => k_is)
    (case aq7 => k_is)
    (case lq7 => k_is)
    (case cq7 => k_is)
    (case kq7 => k_is)
    (case aq8 => k_is)
    (case lq8 => k_is)
    (case cq8 => k_is)
    (case kq8 => k_is)
    (case aq9 => k_is)
    (case lq9 => k_is)
    (case cq9 => k_is)
    (case kq9 => k_is)
    (case aq10 => k_is)
    (case lq10 => k_is)
    (case cq10 => k_is)
    (case kq10 => k_is)
    (case aq11 => k_is)
    (case lq11 => k_is)
    (case cq11 => k_is)
    (case kq11 => k_is)
    (case aq12 => k_is)
    (case lq12 => k_is)
    (case cq12 => k_is)
    (case kq12 => k_is)
    (case aq13 => k_is)
    (case lq13 => k_is)
    (case cq13 => k_is)
    (case kq13 => k_is)
    (case aq14 => k_is)
    (case lq14 => k_is)
    (case cq14 => k_is)
    (case kq14 => k_is)
    (case aq15 => k_is)
    (case lq15 => k_is)
    (case cq15 => k_is)
    (case kq15 => k_is)
    (case aq16 => k_is)
    (case lq16 => k_is)
    (case cq16 => k_is)
    (case kq16 => k_is)
    (case aq17 => k_is)
    (case lq17 => k_is)
    (case cq17 => k_is)
    (case kq17 => k_is)
    (case aq18 => k_is)
    (case lq18 => k_is)
    (case cq18 => k_is)
    (case kq18 => k_is)
    (case aq19 => k_is)
    (case lq19 => k_is)
    (case cq19 => k_is)
    (case kq19 => k_is)
    (case z_all => k_is)
    (case z_bool => k_is)
    (case z_int => k_is)
    (case z_isinstance => k_is)
    (case z_len => k_is)
    (case z_list => k_is)
    (case z_max => k_is)
    (case z_range => k_is)
    (case z_set => k_is)
    (case z_sorted => k_is)
    (case z_tuple => k_is)
    (case z_zip => k_is)
    (case g_MOST => k_is)
    (case e_BadLoom => k_is)
    (case x_BadLoom => k_exc)
#print axioms PySem.Challenge.cw_weavehall_k04_whole_least_looms_holds
