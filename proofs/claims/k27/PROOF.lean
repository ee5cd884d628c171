import PyProof.Rows.All
import Wide.All
import OpenK.AllK
import Wide.FinOn
import PyProof.EqAt
import PyProof.EqKinds
import PyProof.TupleCall
import KE.BitLaws
import KE.IntBitsLaws
import KE.KSuper
import PyProof.InstStoreFacts
import PyProof.ListRange
import PyProof.MaxThree
import PyProof.Rows.FStr
import PySem.Challenge.RW_laidround_k27_same_places
set_option Elab.async false
set_option linter.all false
set_option maxRecDepth 100000
namespace L2
open PySem PySem.Spec PyProof.Rows
abbrev Key := Sum Int Str
def keyIs : Key → Value → Bool
  | .inl k, v => Value.isInt k v
  | .inr x, v => Value.isStrOf x v
def keyH (w : World) : Key → Int
  | .inl k => hashInt k
  | .inr x => hashStr w x
theorem keyIs_shape : ∀ {k : Key} {v : Value}, keyIs k v = true → (∃ i t, k = Sum.inl i ∧ v = Value.int i t) ∨ (∃ x t, k = Sum.inr x ∧ v = Value.str x t)
  | .inl i, v, h => by
    obtain ⟨t, e⟩ := Value.isInt_shape (k := i) (v := v) h
    exact .inl ⟨i, t, rfl, e⟩
  | .inr x, v, h => by
    obtain ⟨t, e⟩ := Value.isStrOf_shape (x := x) (v := v) h
    exact .inr ⟨x, t, rfl, e⟩
theorem keyIs_int (i : Int) (t : Tok) : keyIs (.inl i) (.int i t) = true := by simp [keyIs, Value.isInt]
theorem keyIs_str (x : Str) (t : Tok) : keyIs (.inr x) (.str x t) = true := by simp [keyIs, Value.isStrOf]
theorem key_ll (a b : Int) : decide ((Sum.inl a : Key) = Sum.inl b) = (a == b) := by
  by_cases e : a = b
  · subst e; simp
  · have h : ¬ (Sum.inl a : Key) = Sum.inl b := fun q => e (Sum.inl.inj q)
    rw [decide_eq_false h]
    exact (beq_eq_false_iff_ne.mpr e).symm
theorem key_rr (a b : Str) : decide ((Sum.inr a : Key) = Sum.inr b) = decide (a = b) := by
  by_cases e : a = b
  · subst e; simp
  · have h : ¬ (Sum.inr a : Key) = Sum.inr b := fun q => e (Sum.inr.inj q)
    rw [decide_eq_false h, decide_eq_false e]
theorem key_lr (a : Int) (b : Str) : decide ((Sum.inl a : Key) = Sum.inr b) = false := decide_eq_false (fun q => nomatch q)
theorem key_rl (a : Str) (b : Int) : decide ((Sum.inr a : Key) = Sum.inl b) = false := decide_eq_false (fun q => nomatch q)
def mixKind (prog : Program) (w : World) : PySem.KeyKind prog w Key where
  is := keyIs
  hash := keyH w
  inj := fun v a b ha hb => by
    rcases keyIs_shape ha with ⟨i, t, rfl, rfl⟩ | ⟨x, t, rfl, rfl⟩
    · rcases keyIs_shape hb with ⟨j, u, rfl, e⟩ | ⟨y, u, rfl, e⟩
      · injection e with e1 _; rw [e1]
      · exact nomatch e
    · rcases keyIs_shape hb with ⟨j, u, rfl, e⟩ | ⟨y, u, rfl, e⟩
      · exact nomatch e
      · injection e with e1 _; rw [e1]
  byValue := fun k v h => by
    rcases keyIs_shape h with ⟨i, t, rfl, rfl⟩ | ⟨x, t, rfl, rfl⟩ <;> rfl
  pyHash := fun hv h => by
    rcases keyIs_shape hv with ⟨i, t, rfl, rfl⟩ | ⟨x, t, rfl, rfl⟩
    · exact wpAny_pyHash_int h
    · exact wpAny_pyHash_str h
  eqBool := fun hu hv h => by
    rcases keyIs_shape hu with ⟨i, t, rfl, rfl⟩ | ⟨x, t, rfl, rfl⟩
    · rcases keyIs_shape hv with ⟨j, u, rfl, rfl⟩ | ⟨y, u, rfl, rfl⟩
      · rw [key_ll] at h; exact wpAny_eqBool_int h
      · rw [key_lr] at h; exact SeqAt.EqAt.int_str i t y u _ _ _ _ h
    · rcases keyIs_shape hv with ⟨j, u, rfl, rfl⟩ | ⟨y, u, rfl, rfl⟩
      · rw [key_rl] at h; exact SeqAt.EqAt.str_int x t j u _ _ _ _ h
      · rw [key_rr] at h; exact wpAny_eqBool_str h
  «strs» := fun k x t v h => by
    rcases keyIs_shape h with ⟨i, u, rfl, e⟩ | ⟨y, u, rfl, e⟩
    · exact nomatch e
    · injection e with e1 _
      subst e1
      cases v <;> rfl
theorem mixKind_int (prog : Program) (w : World) (i : Int) (t : Tok) : (mixKind prog w).is (.inl i) (.int i t) = true := keyIs_int i t
theorem mixKind_str (prog : Program) (w : World) (x : Str) (t : Tok) : (mixKind prog w).is (.inr x) (.str x t) = true := keyIs_str x t
end L2
namespace L2
open PySem PySem.Spec PyProof.Rows
inductive V where
  | non | bl (b : Bool) | int (i : Int) | str (x : Str) | byt (b : Array UInt8) | flt (b : UInt64) | ref (a : Addr) | ty (n : String)
  deriving DecidableEq
def RelV : V → Value → Prop
  | .non, u => u = Value.none
  | .bl b, u => u = Value.bool b
  | .int i, u => ∃ t, u = Value.int i t
  | .str x, u => ∃ t, u = Value.str x t
  | .byt b, u => ∃ t, u = Value.bytes b t
  | .flt b, u => ∃ t, u = Value.float b t
  | .ref a, u => u = Value.ref a
  | .ty n, u => u = Value.type n
abbrev Vals : List V → List Value → Prop := Paired RelV
theorem Vals.length {xs : List V} {us : List Value} (r : Vals xs us) : xs.length = us.length := Paired.length r
theorem Vals.get : ∀ {xs : List V} {us : List Value} {i : Nat} {x : V}, Vals xs us → xs[i]? = some x → ∃ u, us[i]? = some u ∧ RelV x u
  | _, _, _, _, .nil, e => by simp at e
  | _, _, 0, _, .cons r _, e => by simp at e; subst e; exact ⟨_, rfl, r⟩
  | _, _, i + 1, x, .cons _ t, e => by
    obtain ⟨u, h1, h2⟩ := Vals.get (i := i) (x := x) t (by simpa using e)
    exact ⟨u, by simpa using h1, h2⟩
theorem Vals.set {x : V} {u : Value} (r : RelV x u) : ∀ {xs : List V} {us : List Value} (i : Nat), Vals xs us → Vals (xs.set i x) (us.set i u)
  | _, _, _, .nil => .nil
  | _, _, 0, .cons _ t => .cons r t
  | _, _, i + 1, .cons q t => .cons q (Vals.set r i t)
theorem Vals.append : ∀ {xs ys : List V} {us ws : List Value}, Vals xs us → Vals ys ws → Vals (xs ++ ys) (us ++ ws)
  | _, _, _, _, .nil, s => s
  | _, _, _, _, .cons r t, s => .cons r (Vals.append t s)
theorem Vals.take : ∀ {xs : List V} {us : List Value} (n : Nat), Vals xs us → Vals (xs.take n) (us.take n)
  | _, _, 0, _ => .nil
  | _, _, _ + 1, .nil => .nil
  | _, _, n + 1, .cons r t => .cons r (Vals.take n t)
theorem Vals.drop : ∀ {xs : List V} {us : List Value} (n : Nat), Vals xs us → Vals (xs.drop n) (us.drop n)
  | _, _, 0, r => r
  | _, _, _ + 1, .nil => .nil
  | _, _, n + 1, .cons _ t => Vals.drop n t
def RelO : Option V → Option Value → Prop
  | some v, some u => RelV v u
  | none, none => True
  | _, _ => False
def KV {κ : Type} : List (κ × V) → List (κ × Value) → Prop := Paired fun (p : κ × V) (q : κ × Value) => p.1 = q.1 ∧ RelV p.2 q.2
def kV : Key → V
  | .inl i => .int i
  | .inr x => .str x
inductive HO where
  | lst (xs : List V)
  | tup (xs : List V)
  | dK (kvs : List (Key × V)) | dT (kvs : List (List Key × V))
  | set (S : Int → Bool) (n : Nat)
  | ins (C dx : Addr) (fs : List (Str × V))
  | own (x : Addr)
  | xd (fs : List (Str × V))
  | met (f x : Addr)
  | rng (lo hi : Int)
  | frz (o : Obj) (u : HO)
  | tbl (ps : Array Value)
  | ext (φ : Heap → Prop)
abbrev Hp := Addr → Option HO
def upd (H : Hp) (a : Addr) (o : HO) : Hp := fun b => if b = a then some o else H b
theorem upd_same {H : Hp} {a : Addr} {o : HO} : upd H a o a = some o := by unfold upd; rw [if_pos rfl]
theorem upd_ne {H : Hp} {a b : Addr} {o : HO} (h : b ≠ a) : upd H a o b = H b := by unfold upd; rw [if_neg h]
theorem ne_of_none {H : Hp} {a b : Addr} {o : HO} (h : H a = some o) (h' : H b = none) : a ≠ b := by
  intro e; subst e; rw [h] at h'; cases h'
section
variable (P : Program) (w : World)
def ObjOk (H : Hp) (h : Heap) (a : Addr) : HO → Prop
  | .lst xs => xs.length ≤ sizeLine ∧ ∃ (its : List Value) (n : Nat), Vals xs its ∧ h.get? a = some { cls := .type "list", data := .seq its.toArray n }
  | .tup xs => xs.length ≤ sizeLine ∧ ∃ its : List Value, Vals xs its ∧ IsTup h a its.toArray
  | .dK kvs => kvs.length ≤ sizeLine ∧ (a == sysModules) = false ∧ ∃ vs, KV kvs vs ∧ h.DictOf (mixKind P w) a vs
  | .dT kvs => kvs.length ≤ sizeLine ∧ (a == sysModules) = false ∧ ∃ xs : List (List Key × Addr × Value),
      Paired (fun (p : List Key × V) (q : List Key × Addr × Value) => p.1 = q.1 ∧ H q.2.1 = some (.tup (p.1.map kV)) ∧ RelV p.2 q.2.2) kvs xs ∧
      ∃ o es ep, h.get? a = some o ∧ o.ExactDict ∧ o.data = .dict es ep ∧ es.toList = xs.map (entryOfKey (tupleKind (mixKind P w))) ∧ (xs.map (·.1)).Nodup
  | .set S n => h.SetOf (intKind P w) a S n
  | .ins C dx fs => H dx = some (.own a) ∧ fs.length ≤ 1000 ∧ dx ≠ a ∧ h.get? a = some (PySem.W.instObj C dx) ∧
      ∃ mA, h.Ns1 dx mA ∧ (∀ f, RelO (fs.lookup f) (mA f)) ∧ PySem.Within mA (fs.map (·.1))
  | .own _ => ∃ o, h.get? a = some o
  | .xd fs => ∃ mA, h.Ns1 a mA ∧ ∀ f, RelO (fs.lookup f) (mA f)
  | .rng lo hi => ∃ t u v, h.get? a = some { cls := .type "range", data := .fields #[.int lo t, .int hi u, .int 1 v] }
  | .frz o u => h.get? a = some o ∧ ObjOk H h a u
  | .tbl ps => h.get? a = some { cls := .none, data := .fields ps }
  | .met f x => h.get? a = some (PySem.W.methodObj (.ref f) (.ref x))
  | .ext φ => φ h ∧ (∃ o, h.get? a = some o) ∧ ∀ h1 h2 : Heap, φ h1 → (∀ o, h1.get? a = some o → h2.get? a = some o) → φ h2
def HOk (H : Hp) (h : Heap) : Prop := ∀ a o, H a = some o → ObjOk P w H h a o
end
section
variable {P : Program} {w : World} {H H' : Hp} {h h' : Heap} {a : Addr} {o : HO}
theorem ObjOk.lt (x : ObjOk P w H h a o) : a < h.objs.size := by
  cases o with
  | lst xs => obtain ⟨_, _, _, _, e⟩ := x; exact Heap.lt_size e
  | tup xs => obtain ⟨_, _, _, p⟩ := x; exact p.lt
  | dK kvs => obtain ⟨_, _, _, _, o, _, _, e, _⟩ := x; exact Heap.lt_size e
  | dT kvs => obtain ⟨_, _, _, _, o, _, _, e, _⟩ := x; exact Heap.lt_size e
  | set S n => obtain ⟨o, _, _, _, e, _⟩ := x; exact Heap.lt_size e
  | ins C dx fs => obtain ⟨_, _, _, e, _⟩ := x; exact Heap.lt_size e
  | own y => obtain ⟨_, e⟩ := x; exact Heap.lt_size e
  | xd fs => obtain ⟨_, ⟨_, _, _, e, _⟩, _⟩ := x; exact Heap.lt_size e
  | rng lo hi => obtain ⟨_, _, _, e⟩ := x; exact Heap.lt_size e
  | frz ob u => obtain ⟨e, _⟩ := x; exact Heap.lt_size e
  | tbl ps => exact Heap.lt_size (show h.get? a = some _ from x)
  | met f y => exact Heap.lt_size (show h.get? a = some _ from x)
  | ext φ => obtain ⟨_, ⟨_, e⟩, _⟩ := x; exact Heap.lt_size e
theorem Paired.mapP {α β : Type} {F G : α → β → Prop} : ∀ {l₁ : List α} {l₂ : List β}, Paired F l₁ l₂ → (∀ a b, F a b → G a b) → Paired G l₁ l₂
  | _, _, .nil, _ => .nil
  | _, _, .cons r t, f => .cons (f _ _ r) (Paired.mapP t f)
theorem ObjOk.stay (x : ObjOk P w H h a o) (k : ∀ b u, (b = a ∨ H b = some (.own a)) → h.get? b = some u → h'.get? b = some u)
    (ho : ∀ b, H b = some (.own a) → H' b = some (.own a)) (ht : ∀ b xs, H b = some (.tup xs) → H' b = some (.tup xs)) : ObjOk P w H' h' a o := by
  induction o with
  | lst xs => obtain ⟨z, its, n, r, e⟩ := x; exact ⟨z, its, n, r, k _ _ (.inl rfl) e⟩
  | tup xs => obtain ⟨z, its, r, ob, e, c⟩ := x; exact ⟨z, its, r, ob, k _ _ (.inl rfl) e, c⟩
  | dK kvs => obtain ⟨z, y, vs, r, ob, es, ep, e, c⟩ := x; exact ⟨z, y, vs, r, ob, es, ep, k _ _ (.inl rfl) e, c⟩
  | dT kvs =>
    obtain ⟨z, y, xs, r, ob, es, ep, e, c⟩ := x
    exact ⟨z, y, xs, Paired.mapP r fun p q z => ⟨z.1, ht _ _ z.2.1, z.2.2⟩, ob, es, ep, k _ _ (.inl rfl) e, c⟩
  | set S n => obtain ⟨ob, es, ep, t, e, c⟩ := x; exact ⟨ob, es, ep, t, k _ _ (.inl rfl) e, c⟩
  | ins C dx fs =>
    obtain ⟨d, z, ne, e, mA, ⟨od, es, ep, e2, c⟩, r⟩ := x
    exact ⟨ho _ d, z, ne, k _ _ (.inl rfl) e, mA, ⟨od, es, ep, k _ _ (.inr d) e2, c⟩, r⟩
  | own y => obtain ⟨ob, e⟩ := x; exact ⟨ob, k _ _ (.inl rfl) e⟩
  | xd fs => obtain ⟨mA, ⟨od, es, ep, e, c⟩, r⟩ := x; exact ⟨mA, ⟨od, es, ep, k _ _ (.inl rfl) e, c⟩, r⟩
  | rng lo hi => obtain ⟨t, u, v, e⟩ := x; exact ⟨t, u, v, k _ _ (.inl rfl) e⟩
  | frz ob u ih => obtain ⟨e, q⟩ := x; exact ⟨k _ _ (.inl rfl) e, ih q⟩
  | tbl ps =>
    have e : h.get? a = some { cls := .none, data := .fields ps } := x
    show h'.get? a = some { cls := .none, data := .fields ps }
    exact k a _ (.inl rfl) e
  | met f y =>
    have e : h.get? a = some (PySem.W.methodObj (.ref f) (.ref y)) := x
    show h'.get? a = some (PySem.W.methodObj (.ref f) (.ref y))
    exact k a _ (.inl rfl) e
  | ext φ => obtain ⟨p, ⟨o, e⟩, st⟩ := x; exact ⟨st _ _ p fun o q => k _ _ (.inl rfl) q, ⟨o, k _ _ (.inl rfl) e⟩, st⟩
theorem HOk.lt (x : HOk P w H h) (e : H a = some o) : a < h.objs.size := (x a o e).lt
theorem HOk.fresh (x : HOk P w H h) (e : h.objs.size ≤ a) : H a = none := by
  cases q : H a with
  | none => rfl
  | some u => exact absurd (Nat.lt_of_lt_of_le (x.lt q) e) (Nat.lt_irrefl _)
theorem HOk.kept (x : HOk P w H h) (k : ∀ b u, h.get? b = some u → h'.get? b = some u) : HOk P w H h' := fun a o e =>
  (x a o e).stay (fun b u _ q => k b u q) (fun _ q => q) fun _ _ q => q
theorem HOk.laid (x : HOk P w H h) (k : ∀ b u, h.get? b = some u → h'.get? b = some u) (hp : h.objs.size ≤ a) (new : ObjOk P w (upd H a o) h' a o) : HOk P w (upd H a o) h' := fun b u e => by
  have hn := x.fresh hp
  by_cases hb : b = a
  · subst hb; rw [upd_same] at e; cases e; exact new
  · rw [upd_ne hb] at e
    exact (x b u e).stay (fun c v _ q => k c v q) (fun c q => by rw [upd_ne (ne_of_none q hn)]; exact q) fun c xs q => by rw [upd_ne (ne_of_none q hn)]; exact q
end
def Rd (H : Hp) (a : Addr) (u : HO) : Prop := H a = some u ∨ ∃ o, H a = some (.frz o u)
theorem Rd.of {H : Hp} {a : Addr} {u : HO} (h : H a = some u) : Rd H a u := .inl h
theorem Rd.ok {P : Program} {w : World} {H : Hp} {h : Heap} {a : Addr} {u : HO} (r : Rd H a u) (x : HOk P w H h) : ObjOk P w H h a u := by
  rcases r with r | ⟨o, r⟩
  · exact x a u r
  · obtain ⟨_, q⟩ := x a _ r
    exact q
def Mut : Option HO → Prop
  | some (.lst _) => True
  | some (.dK _) => True
  | some (.dT _) => True
  | some (.set _ _) => True
  | some (.ins _ _ _) => True
  | some (.ext _) => True
  | _ => False
section
variable {P : Program} {w : World} {H : Hp} {h h' : Heap} {x e : Addr} {o' : HO}
theorem HOk.write (ok : HOk P w H h) (mu : Mut (H x)) (he : e = x ∨ H e = some (.own x)) (k : ∀ b u, b ≠ e → h.get? b = some u → h'.get? b = some u) (heo : ∃ u, h'.get? e = some u)
    (new : ObjOk P w (upd H x o') h' x o') : HOk P w (upd H x o') h' := fun b u q => by
  have nown : ∀ c y, H c = some (.own y) → c ≠ x := fun c y r z => by subst z; rw [r] at mu; exact mu
  have ntup : ∀ c xs, H c = some (.tup xs) → c ≠ x := fun c xs r z => by subst z; rw [r] at mu; exact mu
  by_cases hb : b = x
  · subst hb; rw [upd_same] at q; cases q; exact new
  · rw [upd_ne hb] at q
    by_cases hbe : b = e
    · have q' : H b = some (.own x) := by
        rcases he with z | z
        · exact absurd (hbe.trans z) hb
        · rw [hbe]; exact z
      rw [q] at q'; cases q'
      obtain ⟨v, hv⟩ := heo
      exact ⟨v, by rw [hbe]; exact hv⟩
    · refine (ok b u q).stay (fun c v hc r => k c v ?_ r) (fun c r => by rw [upd_ne (nown c b r)]; exact r) fun c xs r => by rw [upd_ne (ntup c xs r)]; exact r
      rcases hc with rfl | hc
      · exact hbe
      · rintro rfl
        rcases he with z | z
        · exact nown c b hc z
        · rw [hc] at z; cases z; exact hb rfl
end
structure Un (fs ex : List Addr) (H H' : Hp) (h h' : Heap) : Prop where
  keep : ∀ b o, h.get? b = some o → H b = none → b ∉ fs → b ∉ ex → h'.get? b = some o
  slot : ∀ b o, h.get? b = some o → H b = none → b ∈ fs → b ∉ ex → ∃ sl, h'.get? b = some { o with slots := sl }
  free : ∀ b o, h.get? b = some o → H b = none → b ∉ ex → H' b = none
  there : ∀ b o, h.get? b = some o → b ∉ ex → ∃ o', h'.get? b = some o'
  tups : ∀ b xs, H b = some (.tup xs) → H' b = some (.tup xs)
  frzs : ∀ b o u, H b = some (.frz o u) → H' b = some (.frz o u)
  tbls : ∀ b ps, H b = some (.tbl ps) → ∃ more, H' b = some (.tbl (ps ++ more))
section
variable {fs fs' ex ex' : List Addr} {H H1 H2 : Hp} {h h1 h2 h' : Heap} {a x e : Addr} {o : HO}
theorem Un.any (u : Un fs ex H H1 h h1) {b : Addr} {ob : Obj} (q : h.get? b = some ob) (n : H b = none) (hx : b ∉ ex) : ∃ sl, h1.get? b = some { ob with slots := sl } := by
  by_cases hb : b ∈ fs
  · exact u.slot b ob q n hb hx
  · exact ⟨ob.slots, u.keep b ob q n hb hx⟩
theorem Un.trans (a : Un fs ex H H1 h h1) (b : Un fs ex H1 H2 h1 h2) : Un fs ex H H2 h h2 where
  keep := fun c ob q n hc hx => b.keep c ob (a.keep c ob q n hc hx) (a.free c ob q n hx) hc hx
  slot := fun c ob q n hc hx => by
    obtain ⟨sl, e1⟩ := a.slot c ob q n hc hx
    obtain ⟨sl', e2⟩ := b.slot c _ e1 (a.free c ob q n hx) hc hx
    exact ⟨sl', e2⟩
  free := fun c ob q n hx => by
    obtain ⟨o', e1⟩ := a.there c ob q hx
    exact b.free c o' e1 (a.free c ob q n hx) hx
  there := fun c ob q hx => by
    obtain ⟨o', e1⟩ := a.there c ob q hx
    exact b.there c o' e1 hx
  tups := fun c xs q => b.tups c xs (a.tups c xs q)
  frzs := fun c ob xs q => b.frzs c ob xs (a.frzs c ob xs q)
  tbls := fun c ps q => by
    obtain ⟨m1, e1⟩ := a.tbls c ps q
    obtain ⟨m2, e2⟩ := b.tbls c _ e1
    exact ⟨m1 ++ m2, by rw [e2, Array.append_assoc]⟩
theorem Un.kept (k : ∀ b u, h.get? b = some u → h'.get? b = some u) : Un fs ex H H h h' :=
  ⟨fun b ob q _ _ _ => k b ob q, fun b ob q _ _ _ => ⟨ob.slots, k b ob q⟩, fun _ _ _ n _ => n, fun b ob q _ => ⟨ob, k b ob q⟩, fun _ _ q => q, fun _ _ _ q => q, fun _ ps q => ⟨#[], by rw [q]; simp⟩⟩
theorem Un.refl : Un fs ex H H h h := Un.kept fun _ _ q => q
theorem Un.laid (k : ∀ b u, h.get? b = some u → h'.get? b = some u) (hp : h.objs.size ≤ a) (hn : H a = none) : Un fs ex H (upd H a o) h h' where
  keep := fun b u q _ _ _ => k b u q
  slot := fun b u q _ _ _ => ⟨u.slots, k b u q⟩
  free := fun b u q n _ => by rw [upd_ne (Nat.ne_of_lt (Nat.lt_of_lt_of_le (Heap.lt_size q) hp))]; exact n
  there := fun b u q _ => ⟨u, k b u q⟩
  tups := fun b xs q => by rw [upd_ne (ne_of_none q hn)]; exact q
  frzs := fun b u xs q => by rw [upd_ne (ne_of_none q hn)]; exact q
  tbls := fun b ps q => ⟨#[], by rw [upd_ne (ne_of_none q hn), q]; simp⟩
theorem Un.write (mu : Mut (H x)) (he : e = x ∨ H e = some (.own x)) (k : ∀ b u, b ≠ e → h.get? b = some u → h'.get? b = some u) (heo : ∃ u, h'.get? e = some u) : Un fs ex H (upd H x o) h h' := by
  have hx : ∀ b, H b = none → b ≠ x := fun b n z => by subst z; rw [n] at mu; exact mu
  have hb : ∀ b, H b = none → b ≠ e := fun b n z => by
    subst z
    rcases he with r | r
    · exact hx b n r
    · rw [n] at r; cases r
  have hm : ∀ b u, H b = some u → ¬ Mut (some u) → b ≠ x := fun b u q nm z => by subst z; rw [q] at mu; exact nm mu
  refine ⟨fun b u q n _ _ => k b u (hb b n) q, fun b u q n _ _ => ⟨u.slots, k b u (hb b n) q⟩, fun b u q n _ => by rw [upd_ne (hx b n)]; exact n, fun b u q _ => ?_,
    fun b xs q => by rw [upd_ne (hm b _ q fun z => z)]; exact q, fun b u xs q => by rw [upd_ne (hm b _ q fun z => z)]; exact q, fun b ps q => ⟨#[], by rw [upd_ne (hm b _ q fun z => z), q]; simp⟩⟩
  by_cases hbe : b = e
  · subst hbe; exact heo
  · exact ⟨u, k b u hbe q⟩
theorem Un.mono (u : Un fs ex H H1 h h1) (hs : ∀ b ∈ fs, b ∈ fs') (hx : ∀ b ∈ ex, b ∈ ex') : Un fs' ex' H H1 h h1 :=
  ⟨fun b ob q n hb he => u.keep b ob q n (fun z => hb (hs b z)) fun z => he (hx b z), fun _ _ q n _ he => u.any q n fun z => he (hx _ z), fun b ob q n he => u.free b ob q n fun z => he (hx b z), fun b ob q he => u.there b ob q fun z => he (hx b z), u.tups, u.frzs, u.tbls⟩
end
def trk (h : Heap) (H : Hp) : List Addr := (List.range h.objs.size).filter fun a => (H a).isSome
def hidT (h : Heap) (H : Hp) : Heap := PySem.W.hideAll h (trk h H)
theorem hidT_size (h : Heap) (H : Hp) : (hidT h H).objs.size = h.objs.size := PySem.W.hideAll_size _ _
theorem hidT_get {h : Heap} {H : Hp} {b : Addr} {o : Obj} (e : h.get? b = some o) (n : H b = none) : (hidT h H).get? b = some o :=
  PySem.W.hideAll_get _ e fun hm => by
    have q : (H b).isSome = true := (List.mem_filter.mp hm).2
    rw [n] at q; simp at q
theorem of_hidT {h : Heap} {H : Hp} {b : Addr} {o : Obj} (e : (hidT h H).get? b = some o) : h.get? b = some o ∧ H b = none := by
  have e' : h.get? b = some o := PySem.W.of_hideAll (trk h H) e
  refine ⟨e', ?_⟩
  cases q : H b with
  | none => rfl
  | some x =>
    have hm : b ∈ trk h H := List.mem_filter.mpr ⟨List.mem_range.mpr (Heap.lt_size e'), by simp [q]⟩
    have z : (hidT h H).get? b = none := PySem.W.hideAll_none (trk h H) hm
    rw [z] at e; cases e
def allNews (g h : Heap) (L : Addr) : List (Addr × Obj) := (List.range h.objs.size).filterMap fun a => if a = L ∨ (g.get? a).isSome = true then none else (h.get? a).map fun o => (a, o)
def rest (g h : Heap) (L d : Addr) : List (Addr × Obj) := (allNews g h L).filter fun p => decide (p.1 ≠ d)
end L2
namespace L2
open PySem PySem.Spec PyProof.Rows
structure Mod (K : PySem.W.Frag) (mg : Str → Option Value) (base : Heap) : Prop where
  kin : K.In base
  glob : base.Ns mainGlobals mg
  blt : ∃ mb, base.Ns builtinsNs mb ∧ ∀ x : Str, x ≠ "__name__" → mb x = bootBuiltins x
  nolimit : base.NoLimit
structure Cx where
  prog : Program
  w : World
  K : PySem.W.Frag
  mg : Str → Option Value
  base : Heap
  A : Around
  N : List Str
  s_0 : Shared
  H_0 : Hp
  env : Env
  outer : List Env
  stack : List Env
  ex : List Addr
  fn : Str → Bool
  calm : Bool
  pn : List (Addr × Obj)
  xe : Value → Shared → Prop
def frs (l : List Env) : List Addr := l.filterMap (·.frame)
abbrev Cx.fs (X : Cx) : List Addr := frs X.outer
def Vis (sc : Scope) (x : Str) : Prop := sc.names.lookup x = some .local ∨ sc.names.lookup x = some .cell ∨ sc.names.lookup x = some .free
def Loc (sc : Scope) (x : Str) : Prop := sc.names.lookup x = some .local ∨ sc.names.lookup x = some .cell
def Look (env : Env) (h : Heap) (m : Str → Option Value) (x : Str) (u : Value) : Prop :=
  (env.kindOf x = some .local ∧ m x = some u) ∨ ((env.kindOf x = some .cell ∨ env.kindOf x = some .free) ∧ ∃ c, env.cells.lookup x = some c ∧ h.IsCell c (some u))
structure Cx.Ok (X : Cx) : Prop where
  mod : Mod X.K X.mg X.base
  kind : X.env.scope.kind = .function
  glob : X.env.globals = mainGlobals
  blt : X.env.builtins = builtinsNs
  above : X.s_0.heap.objs.size ≤ X.env.locals
  inj : ∀ x y c, X.env.cells.lookup x = some c → X.env.cells.lookup y = some c → x = y
  has : ∀ x, (X.env.kindOf x = some .cell ∨ X.env.kindOf x = some .free) → ∃ c, X.env.cells.lookup x = some c
  cab : ∀ x c, X.fn x = true → X.env.cells.lookup x = some c → X.s_0.heap.objs.size ≤ c
  hd : X.calm = true → X.A.handled = none
  frames : X.A.frames = some X.stack
  stk : X.stack = X.outer ∨ (X.stack = X.env :: X.outer ∧ X.env.frame = some X.env.locals)
  exf : ∀ b ∈ X.ex, b ≠ X.env.locals ∧ ∀ x c, X.env.cells.lookup x = some c → c ≠ b
  bs : ∀ b o, X.base.get? b = some o → X.s_0.heap.get? b = some o ∧ X.H_0 b = none
  bsz : X.base.objs.size ≤ X.s_0.heap.objs.size
  noex : ∀ b o, X.base.get? b = some o → b ∉ X.ex
  exfs : ∀ b ∈ X.ex, b ∉ X.fs
  funs : X.s_0.heap.FunFrames X.base X.outer
  frf : ∀ b ∈ X.fs, X.H_0 b = none
structure Inv (X : Cx) (pins : List (Addr × Obj)) (σ : List (Option V)) (H : Hp) (s : Shared) : Prop where
  ok : X.Ok
  os : s.os = X.s_0.os
  bare : AllBare s.gens
  base : Un X.fs X.ex X.H_0 H X.s_0.heap s.heap
  loc : ∃ m, s.heap.Ns X.env.locals m ∧ ∀ (i : Nat) (x : Str) (v : V), X.N[i]? = some x → σ[i]? = some (some v) → Vis X.env.scope x → ∃ u, RelV v u ∧ Look X.env s.heap m x u
  cell : ∀ x c, X.env.cells.lookup x = some c → ∃ v, s.heap.IsCell c v
  free : H X.env.locals = none
  freeC : ∀ x c, X.env.cells.lookup x = some c → H c = none
  pin : ∀ p ∈ X.pn ++ pins, s.heap.get? p.1 = some p.2 ∧ H p.1 = none ∧ p.1 ≠ X.env.locals ∧ p.1 ∉ X.fs ∧ ∀ v, p.2.data ≠ .cell v
  hok : HOk X.prog X.w H s.heap
  len : σ.length = X.N.length
section
variable {X : Cx} {pins : List (Addr × Obj)} {σ : List (Option V)} {H H' : Hp} {s : Shared} {h' : Heap}
theorem Cx.Ok.nofr (ok : X.Ok) {b : Addr} {o : Obj} (e : X.base.get? b = some o) : b ∉ X.fs := fun hb => by
  have := (ok.funs.mem hb).1
  rw [e] at this; cases this
theorem Inv.bs (I : Inv X pins σ H s) : ∀ b o, X.base.get? b = some o → s.heap.get? b = some o ∧ H b = none := fun b o e =>
  ⟨I.base.keep b o (I.ok.bs b o e).1 (I.ok.bs b o e).2 (I.ok.nofr e) (I.ok.noex b o e), I.base.free b o (I.ok.bs b o e).1 (I.ok.bs b o e).2 (I.ok.noex b o e)⟩
theorem Inv.bk (I : Inv X pins σ H s) : ∀ b o, X.base.get? b = some o → s.heap.get? b = some o := fun b o e => (I.bs b o e).1
theorem Inv.mod (I : Inv X pins σ H s) : Mod X.K X.mg X.base := I.ok.mod
theorem Inv.kIn (I : Inv X pins σ H s) : X.K.In s.heap := I.ok.mod.kin.keeps I.bk
theorem Inv.nolimit (I : Inv X pins σ H s) : s.heap.NoLimit := I.ok.mod.nolimit.keeps I.bk
theorem Inv.lt (I : Inv X pins σ H s) : X.env.locals < s.heap.objs.size := let ⟨_, hn, _⟩ := I.loc; hn.lt
theorem Inv.sz (I : Inv X pins σ H s) : X.s_0.heap.objs.size ≤ s.heap.objs.size := Nat.le_trans I.ok.above (Nat.le_of_lt I.lt)
theorem Inv.nofs (I : Inv X pins σ H s) {a : Addr} (h : s.heap.objs.size ≤ a) : a ∉ X.fs := fun hb => by
  obtain ⟨_, o, ho, _⟩ := I.ok.funs.mem hb
  exact absurd (Nat.lt_of_lt_of_le (Heap.lt_size ho) (Nat.le_trans I.sz h)) (Nat.lt_irrefl _)
theorem Inv.cne (I : Inv X pins σ H s) : ∀ x c, X.env.cells.lookup x = some c → c ≠ X.env.locals := fun x c e z => by
  obtain ⟨v, o, ho, hd⟩ := I.cell x c e
  obtain ⟨m, ⟨o', es, ep, ho', hd', _⟩, _⟩ := I.loc
  rw [z, ho'] at ho; cases ho; rw [hd'] at hd; cases hd
theorem Inv.funs (I : Inv X pins σ H s) : s.heap.FunFrames X.base X.outer := by
  have all : ∀ (l : List Env), (∀ b ∈ frs l, b ∈ X.fs) → X.s_0.heap.FunFrames X.base l → s.heap.FunFrames X.base l := by
    intro l
    induction l with
    | nil => intro _ _; trivial
    | cons env r ih =>
      intro hs hl
      obtain ⟨hk, ⟨L, o, hf, hn, ho, hd⟩, hr⟩ := hl
      have hL : L ∈ X.fs := hs L (by unfold frs; rw [List.filterMap_cons, hf]; exact List.mem_cons_self)
      obtain ⟨sl, e⟩ := I.base.slot L o ho (I.ok.frf L hL) hL fun z => I.ok.exfs L z hL
      exact ⟨hk, ⟨L, _, hf, hn, e, hd⟩, ih (fun b hb => hs b (by unfold frs; rw [List.filterMap_cons, hf]; exact List.mem_cons_of_mem _ hb)) hr⟩
  exact all X.outer (fun _ hb => hb) I.ok.funs
theorem Inv.stack (I : Inv X pins σ H s) : s.heap.FunFrames X.base X.stack := by
  rcases I.ok.stk with e | ⟨e, hf⟩
  · rw [e]; exact I.funs
  · rw [e]
    obtain ⟨m, hn, _⟩ := I.loc
    refine .cons (by rw [I.ok.kind]; decide) hf hn ?_ I.funs
    exact Heap.get?_none_of_le (Nat.le_trans I.ok.bsz I.ok.above)
theorem Inv.stkSub (I : Inv X pins σ H s) : ∀ b ∈ frs X.stack, b ∈ X.env.locals :: X.fs := fun b hb => by
  rcases I.ok.stk with e | ⟨e, hf⟩
  · rw [e] at hb; exact List.mem_cons_of_mem _ hb
  · rw [e] at hb
    unfold frs at hb
    rw [List.filterMap_cons, hf] at hb
    exact hb
theorem Inv.stkFree (I : Inv X pins σ H s) : ∀ b ∈ frs X.stack, H b = none := fun b hb => by
  rcases List.mem_cons.mp (I.stkSub b hb) with e | hb
  · rw [e]; exact I.free
  · obtain ⟨_, o, ho, _⟩ := I.ok.funs.mem hb
    exact I.base.free b o ho (I.ok.frf b hb) fun z => I.ok.exfs b z hb
theorem Inv.step {g' : Array GenState} {t' : Nat} {d' : Drawn} {ch : List Addr} (I : Inv X pins σ H s)
    (hch : ∀ b ∈ ch, (b ∈ X.ex ∨ X.s_0.heap.objs.size ≤ b) ∧ b ≠ X.env.locals ∧ (∀ x c, X.env.cells.lookup x = some c → c ≠ b) ∧ ∀ p ∈ X.pn ++ pins, p.1 ≠ b)
    (keep : ∀ b o, b ≠ X.env.locals → b ∉ X.fs → b ∉ ch → s.heap.get? b = some o → H b = none → h'.get? b = some o)
    (slot : ∀ b o, b ≠ X.env.locals → b ∈ X.fs → b ∉ ch → s.heap.get? b = some o → H b = none → ∃ sl, h'.get? b = some { o with slots := sl }) (free : ∀ b o, b ∉ ch → s.heap.get? b = some o → H b = none → H' b = none)
    (there : ∀ b o, b ∉ ch → s.heap.get? b = some o → ∃ o', h'.get? b = some o')
    (tups : ∀ b xs, H b = some (.tup xs) → H' b = some (.tup xs)) (frzs : ∀ b o u, H b = some (.frz o u) → H' b = some (.frz o u)) (tbls : ∀ b ps, H b = some (.tbl ps) → ∃ more, H' b = some (.tbl (ps ++ more)))
    (ns : ∀ m, s.heap.Ns X.env.locals m → h'.Ns X.env.locals m) (hok : HOk X.prog X.w H' h') (hg : AllBare g') :
    Inv X pins σ H' { s with heap := h', gens := g', drawn := d', toks := t' } := by
  have neL : ∀ b o, X.s_0.heap.get? b = some o → b ≠ X.env.locals := fun b o e => Nat.ne_of_lt (Nat.lt_of_lt_of_le (Heap.lt_size e) I.ok.above)
  have neC : ∀ b o, X.s_0.heap.get? b = some o → b ∉ X.ex → b ∉ ch := fun b o e hx hb => by
    rcases (hch b hb).1 with z | z
    · exact hx z
    · exact absurd (Nat.lt_of_lt_of_le (Heap.lt_size e) z) (Nat.lt_irrefl _)
  have cellK : ∀ x c, X.env.cells.lookup x = some c → ∀ v, s.heap.IsCell c v → h'.IsCell c v := fun x c e v ⟨o, ho, hd⟩ => by
    have nch : c ∉ ch := fun z => (hch c z).2.2.1 x c e rfl
    by_cases hc : c ∈ X.fs
    · obtain ⟨sl, q⟩ := slot c o (I.cne x c e) hc nch ho (I.freeC x c e)
      exact ⟨_, q, hd⟩
    · exact ⟨o, keep c o (I.cne x c e) hc nch ho (I.freeC x c e), hd⟩
  refine ⟨I.ok, I.os, hg, ⟨fun b o e n hb hx => ?_, fun b o e n hb hx => ?_, fun b o e n hx => ?_, fun b o e hx => ?_, fun b xs e => tups b xs (I.base.tups b xs e), fun b o xs e => frzs b o xs (I.base.frzs b o xs e), fun b ps e => ?_⟩, ?_, fun x c e => ?_, ?_, fun x c e => ?_, fun p hp => ?_, hok, I.len⟩
  · exact keep b o (neL b o e) hb (neC b o e hx) (I.base.keep b o e n hb hx) (I.base.free b o e n hx)
  · obtain ⟨sl, e1⟩ := I.base.slot b o e n hb hx
    obtain ⟨sl', e2⟩ := slot b _ (neL b o e) hb (neC b o e hx) e1 (I.base.free b o e n hx)
    exact ⟨sl', e2⟩
  · obtain ⟨o', e1⟩ := I.base.there b o e hx
    exact free b o' (neC b o e hx) e1 (I.base.free b o e n hx)
  · obtain ⟨o', e1⟩ := I.base.there b o e hx
    exact there b o' (neC b o e hx) e1
  · obtain ⟨m1, e1⟩ := I.base.tbls b ps e
    obtain ⟨m2, e2⟩ := tbls b _ e1
    exact ⟨m1 ++ m2, by rw [e2, Array.append_assoc]⟩
  · obtain ⟨m, hn, hl⟩ := I.loc
    refine ⟨m, ns m hn, fun i x v e1 e2 e3 => ?_⟩
    obtain ⟨u, r, l⟩ := hl i x v e1 e2 e3
    refine ⟨u, r, ?_⟩
    rcases l with l | ⟨k, c, e, z⟩
    · exact .inl l
    · exact .inr ⟨k, c, e, cellK x c e _ z⟩
  · obtain ⟨v, z⟩ := I.cell x c e
    exact ⟨v, cellK x c e v z⟩
  · obtain ⟨m, ⟨o, _, _, ho, _⟩, _⟩ := I.loc
    exact free _ o (fun z => (hch _ z).2.1 rfl) ho I.free
  · obtain ⟨v, o, ho, hd⟩ := I.cell x c e
    exact free c o (fun z => (hch c z).2.2.1 x c e rfl) ho (I.freeC x c e)
  · obtain ⟨e, n, ne, nf, d⟩ := I.pin p hp
    have nch : p.1 ∉ ch := fun z => (hch p.1 z).2.2.2 p hp rfl
    exact ⟨keep p.1 p.2 ne nf nch e n, free p.1 p.2 nch e n, ne, nf, d⟩
theorem Inv.un {t' : Nat} (I : Inv X pins σ H s) (u : Un X.fs [] H H' s.heap h') (hok : HOk X.prog X.w H' h') : Inv X pins σ H' { s with heap := h', toks := t' } := by
  obtain ⟨m, ⟨o, es, ep, ho, r⟩, _⟩ := id I.loc
  obtain ⟨sl, hL⟩ := u.any ho I.free (by simp)
  exact I.step (g' := s.gens) (d' := s.drawn) (ch := []) (fun _ z => nomatch z) (fun b o _ hb _ e n => u.keep b o e n hb (by simp)) (fun b o _ hb _ e n => u.slot b o e n hb (by simp)) (fun b o _ e n => u.free b o e n (by simp)) (fun b o _ e => u.there b o e (by simp)) u.tups u.frzs u.tbls (fun m' hm => by
    obtain ⟨o', es', ep', ho', r'⟩ := hm
    rw [ho] at ho'; cases ho'
    exact ⟨_, es', ep', hL, r'⟩) hok I.bare
theorem Inv.call {g' : Array GenState} {t' : Nat} {d' : Drawn} {ch : List Addr} (I : Inv X pins σ H s) (u : Un (frs X.stack) ch H H' s.heap h') (hok : HOk X.prog X.w H' h') (hg : AllBare g')
    (hch : ∀ b ∈ ch, (b ∈ X.ex ∨ X.s_0.heap.objs.size ≤ b) ∧ b ≠ X.env.locals ∧ (∀ x c, X.env.cells.lookup x = some c → c ≠ b) ∧ ∀ p ∈ X.pn ++ pins, p.1 ≠ b) :
    Inv X pins σ H' { s with heap := h', gens := g', drawn := d', toks := t' } := by
  obtain ⟨m, ⟨o, es, ep, ho, r⟩, _⟩ := id I.loc
  obtain ⟨sl, hL⟩ := u.any ho I.free fun z => (hch _ z).2.1 rfl
  exact I.step (ch := ch) hch (fun b o hL hb hc e n => u.keep b o e n (fun z => (List.mem_cons.mp (I.stkSub b z)).elim hL hb) hc) (fun b o _ _ hc e n => u.any e n hc) (fun b o hc e n => u.free b o e n hc) (fun b o hc e => u.there b o e hc) u.tups u.frzs u.tbls (fun m' hm => by
    obtain ⟨o', es', ep', ho', r'⟩ := hm
    rw [ho] at ho'; cases ho'
    exact ⟨_, es', ep', hL, r'⟩) hok hg
theorem Inv.turned {t' : Nat} {it : Addr} (I : Inv X pins σ H s) (k : ∀ b o, b ≠ it → s.heap.get? b = some o → h'.get? b = some o) (hn : H it = none) (hL : it ≠ X.env.locals)
    (h1 : it ∈ X.ex ∨ X.s_0.heap.objs.size ≤ it) (h2 : ∀ x c, X.env.cells.lookup x = some c → c ≠ it) (h3 : ∀ p ∈ X.pn ++ pins, p.1 ≠ it) : Inv X pins σ H { s with heap := h', toks := t' } := by
  have nit : ∀ b u, H b = some u → b ≠ it := fun b u e z => by rw [z, hn] at e; cases e
  refine I.step (g' := s.gens) (d' := s.drawn) (ch := [it]) (fun b hb => ?_) (fun b o _ _ hc e _ => k b o (fun z => hc (by simp [z])) e) (fun b o _ _ hc e _ => ⟨o.slots, k b o (fun z => hc (by simp [z])) e⟩) (fun _ _ _ _ n => n)
    (fun b o hc e => ⟨o, k b o (fun z => hc (by simp [z])) e⟩) (fun _ _ e => e) (fun _ _ _ e => e) (fun b ps e => ⟨#[], by rw [e]; simp⟩) (fun m hm => ?_) (fun b u e => ?_) I.bare
  · have e : b = it := by simpa using hb
    subst e
    exact ⟨h1, hL, h2, h3⟩
  · obtain ⟨o, es, ep, ho, r⟩ := hm
    exact ⟨o, es, ep, k _ o (Ne.symm hL) ho, r⟩
  · refine (I.hok b u e).stay (fun c v hc q => k c v ?_ q) (fun _ q => q) fun _ _ q => q
    rcases hc with z | z
    · rw [z]; exact nit b u e
    · exact nit c _ z
theorem Inv.tok (I : Inv X pins σ H s) (t : Nat) : Inv X pins σ H { s with toks := t } := I.un (h' := s.heap) (t' := t) Un.refl I.hok
theorem Inv.kept {t' : Nat} (I : Inv X pins σ H s) (k : ∀ b u, s.heap.get? b = some u → h'.get? b = some u) : Inv X pins σ H { s with heap := h', toks := t' } := I.un (Un.kept k) (I.hok.kept k)
theorem Inv.laid {a : Addr} {o : HO} {t' : Nat} (I : Inv X pins σ H s) (k : ∀ b u, s.heap.get? b = some u → h'.get? b = some u) (hp : s.heap.objs.size ≤ a) (new : ObjOk X.prog X.w (upd H a o) h' a o) :
    Inv X pins σ (upd H a o) { s with heap := h', toks := t' } := I.un (Un.laid k hp (I.hok.fresh hp)) (I.hok.laid k hp new)
theorem Inv.write {x e : Addr} {o : HO} {t' : Nat} (I : Inv X pins σ H s) (mu : Mut (H x)) (he : e = x ∨ H e = some (.own x)) (k : ∀ b u, b ≠ e → s.heap.get? b = some u → h'.get? b = some u) (heo : ∃ u, h'.get? e = some u)
    (new : ObjOk X.prog X.w (upd H x o) h' x o) : Inv X pins σ (upd H x o) { s with heap := h', toks := t' } := I.un (Un.write mu he k heo) (I.hok.write mu he k heo new)
theorem Inv.weak {σ' : List (Option V)} (I : Inv X pins σ H s) (hl : σ'.length = σ.length) (w : ∀ (i : Nat) v, σ'[i]? = some (some v) → σ[i]? = some (some v)) : Inv X pins σ' H s :=
  ⟨I.ok, I.os, I.bare, I.base, let ⟨m, hn, hl'⟩ := I.loc; ⟨m, hn, fun i x v e1 e2 e3 => hl' i x v e1 (w i v e2) e3⟩, I.cell, I.free, I.freeC, I.pin, I.hok, hl.trans I.len⟩
theorem Inv.pins_of {pins' : List (Addr × Obj)} (I : Inv X pins σ H s) (h : ∀ p ∈ pins', s.heap.get? p.1 = some p.2 ∧ H p.1 = none ∧ p.1 ≠ X.env.locals ∧ p.1 ∉ X.fs ∧ ∀ v, p.2.data ≠ .cell v) : Inv X pins' σ H s :=
  ⟨I.ok, I.os, I.bare, I.base, I.loc, I.cell, I.free, I.freeC, fun p hp => (List.mem_append.mp hp).elim (fun z => I.pin p (List.mem_append_left _ z)) (h p), I.hok, I.len⟩
theorem nodup_ix {N : List Str} (hN : N.Nodup) {i j : Nat} {x : Str} (a : N[i]? = some x) (b : N[j]? = some x) : i = j := by
  obtain ⟨h1, e1⟩ := List.getElem?_eq_some_iff.mp a
  obtain ⟨h2, e2⟩ := List.getElem?_eq_some_iff.mp b
  exact (List.getElem_inj hN).mp (e1.trans e2.symm)
theorem store_ok2 {M : Model} {A : Around} {E : Value → Shared → Prop} {i : Nat} {x : Str} {v : V} {u : Value} {Q : Unit → Shared → Prop} (I : Inv X pins σ H s) (hN : X.N.Nodup) (hi : X.N[i]? = some x) (hx : Loc X.env.scope x) (r : RelV v u)
    (h : ∀ s', Inv X pins (σ.set i (some v)) H s' → (∃ a, Heap.SameBut a s.heap s'.heap ∧ (a = X.env.locals ∨ X.env.cells.lookup x = some a)) → Q () s') (hf : X.fn x = true ∨ X.env.scope.names.lookup x = some .local := by first | exact .inl rfl | exact .inr rfl | assumption) : wpAny M A (storeName X.env x u) Q E s := by
  obtain ⟨m, hn, hl⟩ := id I.loc
  have hcls : (X.env.scope.kind == .class || (X.env.scope.kind == .module && X.env.locals != X.env.globals)) = false := by rw [I.ok.kind]; rfl
  have hiσ : i < σ.length := by rw [I.len]; exact (List.getElem?_eq_some_iff.mp hi).1
  have cne := I.cne
  have tracked : ∀ {a : Addr} {h' : Heap}, (∃ o, s.heap.get? a = some o ∧ H a = none) → Heap.SameBut a s.heap h' → HOk X.prog X.w H h' := fun {a h'} ha hs b ob e => by
    obtain ⟨_, _, hfree⟩ := ha
    refine (I.hok b ob e).stay (fun c w' hc q => (hs.2 c ?_).trans q) (fun _ q => q) fun _ _ q => q
    rintro rfl
    rcases hc with rfl | hc
    · rw [hfree] at e; cases e
    · rw [hfree] at hc; cases hc
  rcases hx with hk | hk
  · refine wpAny_storeName_local hk hn (fun h' hn' hs => ?_) hcls
    obtain ⟨oL, _, _, hoL, _⟩ := id hn
    refine h _ ⟨I.ok, I.os, I.bare, ⟨fun b o e n hb hx => ?_, fun b o e n hb hx => ?_, I.base.free, fun b o e hx => ?_, I.base.tups, I.base.frzs, I.base.tbls⟩, ⟨_, hn', fun j y v' e1 e2 e3 => ?_⟩, fun y c e => ?_, I.free, I.freeC, fun p hp => ?_, tracked ⟨oL, hoL, I.free⟩ hs, by simpa using I.len⟩ ⟨_, hs, .inl rfl⟩
    · exact (hs.2 b (Nat.ne_of_lt (Nat.lt_of_lt_of_le (Heap.lt_size e) I.ok.above))).trans (I.base.keep b o e n hb hx)
    · obtain ⟨sl, e1⟩ := I.base.slot b o e n hb hx
      exact ⟨sl, (hs.2 b (Nat.ne_of_lt (Nat.lt_of_lt_of_le (Heap.lt_size e) I.ok.above))).trans e1⟩
    · obtain ⟨o', e1⟩ := I.base.there b o e hx
      exact ⟨o', (hs.2 b (Nat.ne_of_lt (Nat.lt_of_lt_of_le (Heap.lt_size e) I.ok.above))).trans e1⟩
    · by_cases hj : j = i
      · subst hj
        rw [hi] at e1; cases e1
        rw [List.getElem?_set_self hiσ] at e2
        cases e2
        exact ⟨u, r, .inl ⟨hk, by simp⟩⟩
      · rw [List.getElem?_set_ne (Ne.symm hj)] at e2
        obtain ⟨u', r', q⟩ := hl j y v' e1 e2 e3
        refine ⟨u', r', ?_⟩
        rcases q with ⟨k, e⟩ | ⟨k, c, e, z⟩
        · refine .inl ⟨k, ?_⟩
          have : y ≠ x := fun e => hj (nodup_ix hN e1 (e ▸ hi))
          simp [this, e]
        · exact .inr ⟨k, c, e, z.sameBut hs (cne y c e)⟩
    · obtain ⟨w', z⟩ := I.cell y c e
      exact ⟨w', z.sameBut hs (cne y c e)⟩
    · obtain ⟨e, n, ne, nf, d⟩ := I.pin p hp
      exact ⟨(hs.2 p.1 ne).trans e, n, ne, nf, d⟩
  · have hfn : X.fn x = true := by
      rcases hf with z | z
      · exact z
      · rw [z] at hk; cases hk
    obtain ⟨c, hc⟩ := I.ok.has x (.inl hk)
    obtain ⟨w', z⟩ := I.cell x c hc
    refine wpAny_storeName_cell I.ok.kind hk hc z (fun h' hc' hs => ?_)
    obtain ⟨oc, hoc, hocd⟩ := id z
    refine h { s with heap := h' } ⟨I.ok, I.os, I.bare, ⟨fun b o e n hb hx => ?_, fun b o e n hb hx => ?_, I.base.free, fun b o e hx => ?_, I.base.tups, I.base.frzs, I.base.tbls⟩, ⟨m, hn.sameBut hs (Ne.symm (cne x c hc)), fun j y v' e1 e2 e3 => ?_⟩, fun y c' e => ?_, I.free, I.freeC, fun p hp => ?_, tracked ⟨oc, hoc, I.freeC x c hc⟩ hs, by simpa using I.len⟩ ⟨c, hs, .inr hc⟩
    · exact (hs.2 b (Nat.ne_of_lt (Nat.lt_of_lt_of_le (Heap.lt_size e) (I.ok.cab x c hfn hc)))).trans (I.base.keep b o e n hb hx)
    · obtain ⟨sl, e1⟩ := I.base.slot b o e n hb hx
      exact ⟨sl, (hs.2 b (Nat.ne_of_lt (Nat.lt_of_lt_of_le (Heap.lt_size e) (I.ok.cab x c hfn hc)))).trans e1⟩
    · obtain ⟨o', e1⟩ := I.base.there b o e hx
      exact ⟨o', (hs.2 b (Nat.ne_of_lt (Nat.lt_of_lt_of_le (Heap.lt_size e) (I.ok.cab x c hfn hc)))).trans e1⟩
    · by_cases hj : j = i
      · subst hj
        rw [hi] at e1; cases e1
        rw [List.getElem?_set_self hiσ] at e2
        cases e2
        exact ⟨u, r, .inr ⟨.inl hk, c, hc, hc'⟩⟩
      · rw [List.getElem?_set_ne (Ne.symm hj)] at e2
        obtain ⟨u', r', q⟩ := hl j y v' e1 e2 e3
        refine ⟨u', r', ?_⟩
        rcases q with q | ⟨k, c', e, z'⟩
        · exact .inl q
        · refine .inr ⟨k, c', e, z'.sameBut hs ?_⟩
          rintro rfl
          exact hj (nodup_ix hN e1 (I.ok.inj _ _ _ e hc ▸ hi))
    · by_cases hcc : c' = c
      · subst hcc; exact ⟨_, hc'⟩
      · obtain ⟨w2, z2⟩ := I.cell y c' e
        exact ⟨w2, z2.sameBut hs hcc⟩
    · obtain ⟨e, n, ne, nf, d⟩ := I.pin p hp
      refine ⟨(hs.2 p.1 ?_).trans e, n, ne, nf, d⟩
      intro q
      rw [q, hoc] at e
      have q' : oc = p.2 := Option.some.inj e
      exact d w' (by rw [← q']; exact hocd)
theorem store_ok {M : Model} {A : Around} {E : Value → Shared → Prop} {i : Nat} {x : Str} {v : V} {u : Value} {Q : Unit → Shared → Prop} (I : Inv X pins σ H s) (hN : X.N.Nodup) (hi : X.N[i]? = some x) (hx : Loc X.env.scope x) (r : RelV v u)
    (h : ∀ s', Inv X pins (σ.set i (some v)) H s' → Q () s') (hf : X.fn x = true ∨ X.env.scope.names.lookup x = some .local := by first | exact .inl rfl | exact .inr rfl | assumption) : wpAny M A (storeName X.env x u) Q E s :=
  store_ok2 I hN hi hx r (fun s' I' _ => h s' I') hf
theorem Inv.call' {s' : Shared} {ch : List Addr} (I : Inv X pins σ H s) (ho : s'.os = s.os) (u : Un (frs X.stack) ch H H' s.heap s'.heap) (hok : HOk X.prog X.w H' s'.heap) (hg : AllBare s'.gens)
    (hch : ∀ b ∈ ch, (b ∈ X.ex ∨ X.s_0.heap.objs.size ≤ b) ∧ b ≠ X.env.locals ∧ (∀ x c, X.env.cells.lookup x = some c → c ≠ b) ∧ ∀ p ∈ X.pn ++ pins, p.1 ≠ b) : Inv X pins σ H' s' := by
  obtain ⟨h', g', d', t', o'⟩ := s'
  have e : o' = s.os := ho
  subst e
  exact I.call (g' := g') (t' := t') (d' := d') u hok hg hch
end
abbrev XK := Value → Option Addr → Hp → Prop
abbrev St := List (Option V)
abbrev VK := V → Hp → Prop
abbrev TE := St → Hp → VK → Prop
abbrev TT := St → Hp → (Bool → Hp → Prop) → Prop
abbrev TA := St → Hp → (List V → Hp → Prop) → Prop
structure Ends where
  nx : St → Hp → Prop
  rt : VK
  bk : St → Hp → Prop := fun _ _ => False
  ct : St → Hp → Prop := fun _ _ => False
abbrev TS := Ends → St → Hp → Prop
def EP (X : Cx) (pins : List (Addr × Obj)) (σ : St) (Q : VK) (u : Value) (s' : Shared) : Prop := ∃ v H', Inv X pins σ H' s' ∧ RelV v u ∧ Q v H'
def TP (X : Cx) (pins : List (Addr × Obj)) (σ : St) (Q : Bool → Hp → Prop) (b : Bool) (s' : Shared) : Prop := ∃ H', Inv X pins σ H' s' ∧ Q b H'
def AP (X : Cx) (pins : List (Addr × Obj)) (σ : St) (Q : List V → Hp → Prop) (us : List Value) (s' : Shared) : Prop := ∃ vs H', Inv X pins σ H' s' ∧ Vals vs us ∧ Q vs H'
def SP (X : Cx) (pins : List (Addr × Obj)) (D : Ends) (f : Flow) (s' : Shared) : Prop :=
  match f with
  | .next => ∃ σ' H', Inv X pins σ' H' s' ∧ D.nx σ' H'
  | .brk => ∃ σ' H', Inv X pins σ' H' s' ∧ D.bk σ' H'
  | .cont => ∃ σ' H', Inv X pins σ' H' s' ∧ D.ct σ' H'
  | .ret u => ∃ v σ' H', Inv X pins σ' H' s' ∧ RelV v u ∧ D.rt v H'
def PE (X : Cx) (e : Expr) (t : TE) : Prop :=
  ∀ (pins : List (Addr × Obj)) (s : Shared) (σ : St) (H : Hp) (Q : VK), Inv X pins σ H s → t σ H Q → wpAny (model X.prog X.w) X.A (eval e X.env) (EP X pins σ Q) X.xe s
def PT (X : Cx) (e : Expr) (t : TT) : Prop :=
  ∀ (pins : List (Addr × Obj)) (s : Shared) (σ : St) (H : Hp) (Q : Bool → Hp → Prop), Inv X pins σ H s → t σ H Q → wpAny (model X.prog X.w) X.A (isTrue e X.env (eval e X.env)) (TP X pins σ Q) X.xe s
def PW (X : Cx) (e : Expr) (t : TT) : Prop :=
  ∀ (whole : Sem Value) (pins : List (Addr × Obj)) (s : Shared) (σ : St) (H : Hp) (Q : Bool → Hp → Prop), Inv X pins σ H s → t σ H Q → wpAny (model X.prog X.w) X.A (isTrue e X.env whole) (TP X pins σ Q) X.xe s
theorem PW.pt {X : Cx} {e : Expr} {t : TT} (h : PW X e t) : PT X e t := h _
def PA (X : Cx) (es : List Expr) (t : TA) : Prop :=
  ∀ (pos : Pos) (pins : List (Addr × Obj)) (s : Shared) (σ : St) (H : Hp) (Q : List V → Hp → Prop), Inv X pins σ H s → t σ H Q → wpAny (model X.prog X.w) X.A (spliced (backTo pos (starEach es X.env))) (AP X pins σ Q) X.xe s
def PS (X : Cx) (st : Stmt) (t : TS) : Prop :=
  ∀ (pins : List (Addr × Obj)) (s : Shared) (σ : St) (H : Hp) (D : Ends), Inv X pins σ H s → t D σ H → wpAny (model X.prog X.w) X.A (exec st X.env) (SP X pins D) X.xe s
def PSs (X : Cx) (st : List Stmt) (t : TS) : Prop :=
  ∀ (pins : List (Addr × Obj)) (s : Shared) (σ : St) (H : Hp) (D : Ends), Inv X pins σ H s → t D σ H → wpAny (model X.prog X.w) X.A (execs st X.env) (SP X pins D) X.xe s
theorem thn {α : Type} {t : Sem α} {Q Q' : α → Shared → Prop} {M : Model} {A : Around} {E : Value → Shared → Prop} {s : Shared} (h : wpAny M A t Q E s) (hQ : ∀ a s, Q a s → Q' a s) : wpAny M A t Q' E s := wpAny_mono h hQ fun _ _ x => x
end L2
namespace L2
open PySem PySem.Spec PyProof.Rows
section
variable {X : Cx}
def tVar (i : Nat) : TE := fun σ H Q => ∃ v, σ[i]? = some (some v) ∧ Q v H
def tC (v : V) : TE := fun _ H Q => Q v H
theorem pe_var {i : Nat} {x : Str} {pos : Pos} (hN : X.N[i]? = some x) (hv : Vis X.env.scope x) (hd : (x == ("__debug__" : Str)) = false := by decide) (hcd : (x == ("__classdict__" : Str)) = false := by decide) : PE X (.Name x pos) (tVar i) := by
  intro pins s σ H Q I h
  obtain ⟨v, e, h⟩ := h
  obtain ⟨m, hn, hl⟩ := I.loc
  obtain ⟨u, r, l⟩ := hl i x v hN e hv
  have fin : EP X pins σ Q u s := ⟨v, H, I, r, h⟩
  rcases l with ⟨hk, hm⟩ | ⟨hk, c, hc, hcell⟩
  · exact wpAny_Name (wpAny_loadName_local I.ok.kind hk hn hm fin) hd
  · rcases hk with hk | hk
    · exact wpAny_Name (wpAny_loadName_cell I.ok.kind hk hc hcell fin) hd
    · exact wpAny_Name (wpAny_loadName_free I.ok.kind hk hc hcell fin hcd) hd
theorem pe_int {i j pos} : PE X (.Constant (.int i) j pos) (tC (.int i)) := fun _ _ _ H _ I h => wpAny_Constant_int ⟨.int i, H, I.tok _, ⟨_, rfl⟩, h⟩
theorem pe_bl {b j pos} : PE X (.Constant (.bool b) j pos) (tC (.bl b)) := fun _ _ _ H _ I h => Constant_bool ⟨.bl b, H, I, rfl, h⟩
theorem pe_non {j pos} : PE X (.Constant .none j pos) (tC .non) := fun _ _ _ H _ I h => Constant_none ⟨.non, H, I, rfl, h⟩
theorem pe_str {x j pos} : PE X (.Constant (.str x) j pos) (tC (.str x)) := fun _ _ _ H _ I h => Calls.Constant_str ⟨.str x, H, I.tok _, ⟨_, rfl⟩, h⟩
def Gl (X : Cx) (x : Str) : Prop := X.env.kindOf x = some .globalImplicit
theorem ld_glob {E : Value → Shared → Prop} {pins : List (Addr × Obj)} {s : Shared} {σ : St} {H : Hp} {x : Str} {u : Value} {pos : Pos} {Q : Value → Shared → Prop} (I : Inv X pins σ H s) (hg : Gl X x) (hm : X.mg x = some u) (h : Q u s)
    (hd : (x == ("__debug__" : Str)) = false := by decide) : wpAny (model X.prog X.w) X.A (eval (.Name x pos) X.env) Q E s :=
  Calls.Name_function_global I.ok.kind hg (Calls.loadGlobal_global (by rw [I.ok.glob]; exact I.mod.glob.keeps I.bk) hm h) hd
theorem ld_blt {E : Value → Shared → Prop} {pins : List (Addr × Obj)} {s : Shared} {σ : St} {H : Hp} {x : Str} {u : Value} {pos : Pos} {Q : Value → Shared → Prop} (I : Inv X pins σ H s) (hg : Gl X x) (hm : X.mg x = none) (hv : bootBuiltins x = some u) (h : Q u s)
    (hn : x ≠ "__name__" := by decide) (hd : (x == ("__debug__" : Str)) = false := by decide) : wpAny (model X.prog X.w) X.A (eval (.Name x pos) X.env) Q E s := by
  obtain ⟨mb, h1, h2⟩ := I.mod.blt
  exact Calls.Name_function_global I.ok.kind hg (Calls.loadGlobal_builtin (by rw [I.ok.glob]; exact I.mod.glob.keeps I.bk) hm (by rw [I.ok.blt]; exact h1.keeps I.bk) ((h2 x hn).trans hv) h) hd
theorem pe_glob {x : Str} {v : V} {u : Value} {pos : Pos} (hg : Gl X x) (hm : X.mg x = some u) (r : RelV v u) (hd : (x == ("__debug__" : Str)) = false := by decide) : PE X (.Name x pos) (tC v) :=
  fun _ _ _ H _ I h => ld_glob I hg hm ⟨v, H, I, r, h⟩ hd
theorem pe_bltn {x : Str} {v : V} {u : Value} {pos : Pos} (hg : Gl X x) (hm : X.mg x = none) (hv : bootBuiltins x = some u) (r : RelV v u) (hn : x ≠ "__name__" := by decide) (hd : (x == ("__debug__" : Str)) = false := by decide) : PE X (.Name x pos) (tC v) :=
  fun _ _ _ H _ I h => ld_blt I hg hm hv ⟨v, H, I, r, h⟩ hn hd
variable {a b : Expr} {ta tb : TE} {pos : Pos}
def tB (t : TE) : TT := fun σ H Q => t σ H fun x H1 => ∃ c, x = .bl c ∧ Q c H1
theorem pt_val {e : Expr} {t : TE} (h : PE X e t) (he : ∀ whole, isTrue e X.env whole = (do let v ← whole; standAt e.pos; holding [v] (truthy v)) := by intro _; rfl) : PT X e (tB t) := by
  intro pins s σ H Q I hw
  refine isTrue_plain (thn (h pins s σ H _ I hw) fun v s1 ⟨x, H1, I1, r1, q1⟩ => ?_) (he _)
  obtain ⟨d, rfl, q⟩ := q1
  cases r1
  exact wpAny_truthy_bool ⟨H1, I1, q⟩
variable {tA tB' : TT} {rest : List Expr}
def tAnd (t u : TT) : TT := fun σ H Q => t σ H fun c H1 => if c = true then u σ H1 Q else Q false H1
def tOr (t u : TT) : TT := fun σ H Q => t σ H fun c H1 => if c = true then Q true H1 else u σ H1 Q
def tNot (t : TT) : TT := fun σ H Q => t σ H fun c H1 => Q (!c) H1
theorem pw_and1 (ha : PT X a tA) : PW X (.BoolOp .And [a] pos) tA := by
  intro wh pins s σ H Q I h
  refine isTrue_and (thn (ha pins s σ H Q I h) fun c s1 e => ?_)
  cases c with
  | true => exact isTrue_and_nil e
  | false => exact e
theorem pw_or1 (ha : PT X a tA) : PW X (.BoolOp .Or [a] pos) tA := by
  intro wh pins s σ H Q I h
  refine isTrue_or (thn (ha pins s σ H Q I h) fun c s1 e => ?_)
  cases c with
  | false => exact isTrue_or_nil e
  | true => exact e
theorem pw_and (ha : PT X a tA) (hb : PW X (.BoolOp .And (b :: rest) pos) tB') : PW X (.BoolOp .And (a :: b :: rest) pos) (tAnd tA tB') := by
  intro wh pins s σ H Q I h
  refine isTrue_and (thn (ha pins s σ H _ I h) fun c s1 ⟨H1, I1, q1⟩ => ?_)
  cases c with
  | true => exact hb wh pins s1 σ H1 Q I1 q1
  | false => exact ⟨H1, I1, q1⟩
theorem pw_or (ha : PT X a tA) (hb : PW X (.BoolOp .Or (b :: rest) pos) tB') : PW X (.BoolOp .Or (a :: b :: rest) pos) (tOr tA tB') := by
  intro wh pins s σ H Q I h
  refine isTrue_or (thn (ha pins s σ H _ I h) fun c s1 ⟨H1, I1, q1⟩ => ?_)
  cases c with
  | true => exact ⟨H1, I1, q1⟩
  | false => exact hb wh pins s1 σ H1 Q I1 q1
theorem pt_not (ha : PT X a tA) : PT X (.UnaryOp .Not a pos) (tNot tA) := by
  intro pins s σ H Q I h
  exact isTrue_not (ha pins s σ H (fun c H1 => Q (!c) H1) I h)
def tAndV (ta tb : TE) : TE := fun σ H Q => ta σ H fun x H1 => ∃ c, x = .bl c ∧ if c = true then tb σ H1 Q else Q (.bl false) H1
def tNotV (ta : TE) : TE := fun σ H Q => ta σ H fun x H1 => ∃ c, x = .bl c ∧ Q (.bl (!c)) H1
theorem pe_one {op} {t : TE} (h : PE X a t) : PE X (.BoolOp op [a] pos) t := fun pins s σ H Q I hw => BoolOp_one (h pins s σ H Q I hw)
theorem pe_and (ha : PE X a ta) (hb : PE X (.BoolOp .And (b :: rest) pos) tb) : PE X (.BoolOp .And (a :: b :: rest) pos) (tAndV ta tb) := by
  intro pins s σ H Q I h
  refine BoolOp_and (thn (ha pins s σ H _ I h) fun v s1 ⟨x, H1, I1, r1, q1⟩ => ?_)
  obtain ⟨c, rfl, q1⟩ := q1
  cases r1
  refine wpAny_truthy_bool ?_
  cases c with
  | true => exact hb pins s1 σ H1 Q I1 q1
  | false => exact ⟨.bl false, H1, I1, rfl, q1⟩
theorem pe_not (ha : PE X a ta) : PE X (.UnaryOp .Not a pos) (tNotV ta) := by
  intro pins s σ H Q I h
  refine UnaryOp_ (thn (ha pins s σ H _ I h) fun v s1 ⟨x, H1, I1, r1, q1⟩ => ?_)
  obtain ⟨c, rfl, q1⟩ := q1
  cases r1
  exact not_of (wpAny_truthy_bool ⟨.bl (!c), H1, I1, rfl, q1⟩)
end
end L2
namespace L2
open PySem PySem.Spec PyProof.Rows
def SqL (K : PySem.W.Frag) (H : Hp) (a : Addr) (xs : List V) : Prop :=
  Rd H a (.lst xs) ∨
    ∃ (o : Obj) (its : Array Value) (n : Nat), K.lookup a = some o ∧ o.cls = .type "list" ∧ o.dict = none ∧ o.data = .seq its n ∧ its.size ≤ sizeLine ∧ Vals xs its.toList
def SqT (K : PySem.W.Frag) (H : Hp) (a : Addr) (xs : List V) : Prop :=
  Rd H a (.tup xs) ∨
    ∃ (o : Obj) (its : Array Value) (n : Nat), K.lookup a = some o ∧ o.cls = .type "tuple" ∧ o.data = .seq its n ∧ its.size ≤ sizeLine ∧ Vals xs its.toList
def absV : Value → Option V
  | .none => some .non
  | .bool b => some (.bl b)
  | .int i _ => some (.int i)
  | .str x _ => some (.str x)
  | .bytes b _ => some (.byt b)
  | .float b _ => some (.flt b)
  | .ref a => some (.ref a)
  | .type n => some (.ty n)
  | _ => none
theorem RelV.abs {x : V} {u : Value} (r : RelV x u) : absV u = some x := by
  cases x with
  | non => cases r; rfl
  | bl _ => cases r; rfl
  | int _ => obtain ⟨t, rfl⟩ := r; rfl
  | str _ => obtain ⟨t, rfl⟩ := r; rfl
  | byt _ => obtain ⟨t, rfl⟩ := r; rfl
  | flt _ => obtain ⟨t, rfl⟩ := r; rfl
  | ref _ => cases r; rfl
  | ty _ => cases r; rfl
theorem RelV.inj {x y : V} {u : Value} (r : RelV x u) (q : RelV y u) : x = y := Option.some.inj (r.abs.symm.trans q.abs)
theorem Vals.inj : ∀ {xs ys : List V} {us : List Value}, Vals xs us → Vals ys us → xs = ys
  | _, _, _, .nil, .nil => rfl
  | _, _, _, .cons r t, .cons r' t' => by rw [r.inj r', Vals.inj t t']
section
variable {X : Cx} {pins : List (Addr × Obj)} {σ : St} {H : Hp} {s : Shared} {a : Addr} {xs ys : List V}
theorem SqL.of {K : PySem.W.Frag} (h : H a = some (.lst xs)) : SqL K H a xs := .inl (.inl h)
theorem SqT.of {K : PySem.W.Frag} (h : H a = some (.tup xs)) : SqT K H a xs := .inl (.inl h)
theorem Inv.list (I : Inv X pins σ H s) (h : SqL X.K H a xs) : ∃ its : List Value, Vals xs its ∧ PlainL s.heap a its.toArray ∧ xs.length ≤ sizeLine := by
  rcases h with h | ⟨o, its, n, hk, hc, hd, hs, hz, r⟩
  · obtain ⟨z, its, n, r, e⟩ := h.ok I.hok
    exact ⟨its, r, ⟨_, n, e, rfl, rfl, rfl⟩, z⟩
  · refine ⟨its.toList, r, ⟨o, n, I.kIn a o hk, hc, hd, by simpa using hs⟩, ?_⟩
    have e := r.length
    simp only [Array.length_toList] at e
    omega
theorem Inv.tuple (I : Inv X pins σ H s) (h : SqT X.K H a xs) : ∃ its : List Value, Vals xs its ∧ IsTup s.heap a its.toArray ∧ xs.length ≤ sizeLine := by
  rcases h with h | ⟨o, its, n, hk, hc, hs, hz, r⟩
  · obtain ⟨z, its, r, p⟩ := h.ok I.hok
    exact ⟨its, r, p, z⟩
  · refine ⟨its.toList, r, ⟨o, I.kIn a o hk, hc, n, by simpa using hs⟩, ?_⟩
    have e := r.length
    simp only [Array.length_toList] at e
    omega
theorem Inv.list_inj (I : Inv X pins σ H s) (h : SqL X.K H a xs) (h' : SqL X.K H a ys) : xs = ys := by
  obtain ⟨its, r, ⟨o, n, e, _, _, d⟩, _⟩ := I.list h
  obtain ⟨its', r', ⟨o', n', e', _, _, d'⟩, _⟩ := I.list h'
  rw [e] at e'; cases e'
  rw [d] at d'
  injection d' with d1 _
  have : its = its' := by simpa using congrArg Array.toList d1
  subst this
  exact r.inj r'
theorem Inv.tuple_inj (I : Inv X pins σ H s) (h : SqT X.K H a xs) (h' : SqT X.K H a ys) : xs = ys := by
  obtain ⟨its, r, ⟨o, e, _, n, d⟩, _⟩ := I.tuple h
  obtain ⟨its', r', ⟨o', e', _, n', d'⟩, _⟩ := I.tuple h'
  rw [e] at e'; cases e'
  rw [d] at d'
  injection d' with d1 _
  have : its = its' := by simpa using congrArg Array.toList d1
  subst this
  exact r.inj r'
end
abbrev Cx.wish (X : Cx) (E : Value → Shared → Prop) : Cx := { X with xe := E }
abbrev Cx.nox (X : Cx) : Cx := X.wish fun _ _ => False
theorem Cx.Ok.wish {X : Cx} (ok : X.Ok) (E : Value → Shared → Prop) : (X.wish E).Ok :=
  ⟨ok.mod, ok.kind, ok.glob, ok.blt, ok.above, ok.inj, ok.has, ok.cab, ok.hd, ok.frames, ok.stk, ok.exf, ok.bs, ok.bsz, ok.noex, ok.exfs, ok.funs, ok.frf⟩
theorem Cx.Ok.unwish {X : Cx} {E : Value → Shared → Prop} (ok : (X.wish E).Ok) : X.Ok :=
  ⟨ok.mod, ok.kind, ok.glob, ok.blt, ok.above, ok.inj, ok.has, ok.cab, ok.hd, ok.frames, ok.stk, ok.exf, ok.bs, ok.bsz, ok.noex, ok.exfs, ok.funs, ok.frf⟩
section
variable {X : Cx} {pins : List (Addr × Obj)} {σ : St} {H : Hp} {s : Shared} {E : Value → Shared → Prop}
theorem Inv.wish (I : Inv X pins σ H s) (E : Value → Shared → Prop) : Inv (X.wish E) pins σ H s := ⟨I.ok.wish E, I.os, I.bare, I.base, I.loc, I.cell, I.free, I.freeC, I.pin, I.hok, I.len⟩
theorem Inv.unwish (I : Inv (X.wish E) pins σ H s) : Inv X pins σ H s := ⟨I.ok.unwish, I.os, I.bare, I.base, I.loc, I.cell, I.free, I.freeC, I.pin, I.hok, I.len⟩
theorem SP.unwish {D : Ends} {f : Flow} {s' : Shared} (h : SP (X.wish E) pins D f s') : SP X pins D f s' := by
  cases f with
  | next => obtain ⟨σ', H', I, q⟩ := h; exact ⟨σ', H', I.unwish, q⟩
  | brk => obtain ⟨σ', H', I, q⟩ := h; exact ⟨σ', H', I.unwish, q⟩
  | cont => obtain ⟨σ', H', I, q⟩ := h; exact ⟨σ', H', I.unwish, q⟩
  | ret u => obtain ⟨v, σ', H', I, r, q⟩ := h; exact ⟨v, σ', H', I.unwish, r, q⟩
theorem PE.nox {e : Expr} {t : TE} (h : PE X.nox e t) : PE X e t := fun pins s σ H Q I hw =>
  wpAny_mono (h pins s σ H Q (I.wish _) hw) (fun _ _ ⟨v, H', I', r, q⟩ => ⟨v, H', I'.unwish, r, q⟩) fun _ _ z => False.elim z
theorem PT.nox {e : Expr} {t : TT} (h : PT X.nox e t) : PT X e t := fun pins s σ H Q I hw =>
  wpAny_mono (h pins s σ H Q (I.wish _) hw) (fun _ _ ⟨H', I', q⟩ => ⟨H', I'.unwish, q⟩) fun _ _ z => False.elim z
theorem PSs.nox {st : List Stmt} {t : TS} (h : PSs X.nox st t) : PSs X st t := fun pins s σ H D I hw =>
  wpAny_mono (h pins s σ H D (I.wish _) hw) (fun _ _ q => q.unwish) fun _ _ z => False.elim z
end
section
variable {X : Cx} {st : Stmt} {rest : List Stmt} {t u : TS} {e : Expr} {te : TE} {pos : Pos}
def tNext : TS := fun D σ H => D.nx σ H
def tSeq (t u : TS) : TS := fun D σ H => t { D with nx := u D } σ H
theorem pss_nil : PSs X [] tNext := fun _ _ σ H _ I h => wpAny_execs_nil ⟨σ, H, I, h⟩
theorem pss_cons (h1 : PS X st t) (h2 : PSs X rest u) : PSs X (st :: rest) (tSeq t u) := by
  intro pins s σ H D I h
  refine wpAny_execs_cons (thn (h1 pins s σ H { D with nx := u D } I h) fun f s1 q => ?_)
  cases f with
  | next =>
    obtain ⟨σ', H', I', q⟩ := q
    exact h2 pins s1 σ' H' D I' q
  | ret v => exact q
  | brk => exact q
  | cont => exact q
theorem pss_one (h1 : PS X st t) : PSs X [st] t := by
  intro pins s σ H D I h
  refine wpAny_execs_cons (thn (h1 pins s σ H D I h) fun f s1 q => ?_)
  cases f with
  | next => exact wpAny_execs_nil q
  | ret v => exact q
  | brk => exact q
  | cont => exact q
theorem Inv.quiet {pins : List (Addr × Obj)} {σ : St} {H : Hp} {s : Shared} (I : Inv X pins σ H s) : interactive X.env = false := by simp [interactive, I.ok.kind]
def tDrop (te : TE) : TS := fun D σ H => te σ H fun _ H1 => D.nx σ H1
theorem ps_expr (he : PE X e te) (hs : swapsWith e none pos.line X.env = pure false := by rfl) : PS X (.Expr e pos) (tDrop te) := by
  intro pins s σ H D I h
  exact wpAny_Expr_any (thn (he pins s σ H _ I h) fun v s1 ⟨x, H1, I1, r1, q1⟩ => ⟨σ, H1, I1, q1⟩) I.quiet hs
def tRet (te : TE) : TS := fun D σ H => te σ H D.rt
theorem ps_ret (he : PE X e te) : PS X (.Return (some e) pos) (tRet te) := by
  intro pins s σ H D I h
  exact wpAny_Return_some (thn (he pins s σ H _ I h) fun v s1 ⟨x, H1, I1, r1, q1⟩ => ⟨x, σ, H1, I1, r1, q1⟩)
def tIfS (c : TT) (t u : TS) : TS := fun D σ H => c σ H fun b H1 => if b = true then t D σ H1 else u D σ H1
theorem ps_if {c : Expr} {a b : List Stmt} {tc : TT} (hc : PT X c tc) (ha : PSs X a t) (hb : PSs X b u) : PS X (.If c a b pos) (tIfS tc t u) := by
  intro pins s σ H D I h
  refine wpAny_If (thn (hc pins s σ H _ I h) fun d s1 ⟨H1, I1, q1⟩ => ?_)
  cases d with
  | true => exact ha pins s1 σ H1 D I1 q1
  | false => exact hb pins s1 σ H1 D I1 q1
def tNever : TS := fun _ _ _ => False
theorem ps_never : PS X st tNever := fun _ _ _ _ _ _ h => h.elim
end
abbrev TG := V → St → Hp → (St → Hp → Prop) → Prop
abbrev TGs := List V → St → Hp → (St → Hp → Prop) → Prop
def PG (X : Cx) (target : Expr) (t : TG) : Prop :=
  ∀ (pins : List (Addr × Obj)) (s : Shared) (σ : St) (H : Hp) (v : V) (u : Value) (Q : St → Hp → Prop), Inv X pins σ H s → RelV v u → t v σ H Q →
    wpAny (model X.prog X.w) X.A (assign target X.env u) (fun _ s' => ∃ σ' H', Inv X pins σ' H' s' ∧ Q σ' H') X.xe s
def PGs (X : Cx) (ts : List Expr) (t : TGs) : Prop :=
  ∀ (pins : List (Addr × Obj)) (s : Shared) (σ : St) (H : Hp) (vs : List V) (us : List Value) (Q : St → Hp → Prop), Inv X pins σ H s → Vals vs us → t vs σ H Q →
    wpAny (model X.prog X.w) X.A (assignInOrder ((assignEach ts X.env).map (·.2)) us) (fun _ s' => ∃ σ' H', Inv X pins σ' H' s' ∧ Q σ' H') X.xe s
abbrev TSet := V → V → V → Hp → (Hp → Prop) → Prop
def PSet (X : Cx) (t : TSet) : Prop :=
  ∀ (pins : List (Addr × Obj)) (s : Shared) (σ : St) (H : Hp) (o i v : V) (ov iv u : Value) (Q : Hp → Prop), Inv X pins σ H s → RelV o ov → RelV i iv → RelV v u → t o i v H Q →
    wpAny (model X.prog X.w) X.A (setItem ov iv u) (fun _ s' => ∃ H', Inv X pins σ H' s' ∧ Q H') X.xe s
abbrev TIp := V → V → Hp → VK → Prop
def PIp (X : Cx) (op : Operator) (t : TIp) : Prop :=
  ∀ (pins : List (Addr × Obj)) (s : Shared) (σ : St) (H : Hp) (x y : V) (v u : Value) (Q : VK), Inv X pins σ H s → RelV x v → RelV y u → t x y H Q →
    wpAny (model X.prog X.w) X.A (inplaceOp op v u) (EP X pins σ Q) X.xe s
section
variable {X : Cx} {pos : Pos}
def gName (i : Nat) : TG := fun v σ H Q => Q (σ.set i (some v)) H
theorem pg_name {i : Nat} {x : Str} (hN : X.N.Nodup) (hi : X.N[i]? = some x) (hx : Loc X.env.scope x) (hf : X.fn x = true ∨ X.env.scope.names.lookup x = some .local := by first | exact .inl rfl | exact .inr rfl | assumption) : PG X (.Name x pos) (gName i) := by
  intro pins s σ H v u Q I r h
  exact wpAny_assign_Name (store_ok I hN hi hx r (fun s' I' => ⟨_, H, I', h⟩) hf)
def gNil : TGs := fun vs σ H Q => vs = [] ∧ Q σ H
def gCons (t : TG) (u : TGs) : TGs := fun vs σ H Q => ∃ v r, vs = v :: r ∧ t v σ H fun σ' H' => u r σ' H' Q
theorem pgs_nil : PGs X [] gNil := by
  intro pins s σ H vs us Q I r h
  obtain ⟨e, h⟩ := h
  subst e
  cases r
  exact assignInOrder_nil ⟨σ, H, I, h⟩
theorem pgs_cons {e : Expr} {es : List Expr} {t : TG} {u : TGs} (h1 : PG X e t) (h2 : PGs X es u)
    (hs : (assignEach (e :: es) X.env).map (·.2) = assign e X.env :: (assignEach es X.env).map (·.2) := by rfl) : PGs X (e :: es) (gCons t u) := by
  intro pins s σ H vs us Q I r h
  obtain ⟨v, vr, e1, h⟩ := h
  subst e1
  cases r with
  | cons r rr =>
    rw [hs]
    refine assignInOrder_cons (thn (h1 pins s σ H _ _ _ I r h) fun _ s1 ⟨σ1, H1, I1, q1⟩ => ?_)
    exact h2 pins s1 σ1 H1 _ _ Q I1 rr q1
def gTup (K : PySem.W.Frag) (n : Nat) (t : TGs) : TG := fun v σ H Q => ∃ a xs, v = .ref a ∧ SqT K H a xs ∧ xs.length = n ∧ t xs σ H Q
theorem pg_tup {es : List Expr} {k : Nat} {t : TGs} {n : Nat} (hc : X.calm = true) (h : PGs X es t)
    (hn : (assignEach es X.env).length = n := by rfl) (hst : (assignEach es X.env).findIdx? (·.1) = none := by rfl) : PG X (.Tuple es k pos) (gTup X.K n t) := by
  intro pins s σ H v u Q I r hw
  obtain ⟨a, xs, e1, hq, hl, hw⟩ := hw
  subst e1
  cases r
  obtain ⟨its, rv, ht, hz⟩ := I.tuple hq
  refine assign_Tuple_tuple (I.ok.hd hc) ht (by simp [hn, ← hl, rv.length]) hst fun h' hx => ?_
  have I1 : Inv X pins σ H { s with heap := h' } := I.kept (t' := s.toks) fun b o e => hx b o (Nat.ne_of_lt (Heap.lt_size e)) e
  exact h pins _ σ H xs _ Q I1 (by simpa using rv) hw
def gSub (to ti : TE) (t : TSet) : TG := fun v σ H Q => to σ H fun o H1 => ti σ H1 fun i H2 => t o i v H2 fun H3 => Q σ H3
theorem pg_sub {o i : Expr} {to ti : TE} {t : TSet} (ho : PE X o to) (hi : PE X i ti) (hs : PSet X t)
    (ha : ∀ v, assign (.Subscript o i pos) X.env v = (do
      let ov ← holding [v] (eval o X.env)
      let iv ← holding [v, ov] (eval i X.env)
      standAt pos
      holding [v, ov, iv] (setItem ov iv v)
      release [v, ov, iv] []) := by intro _; rfl) : PG X (.Subscript o i pos) (gSub to ti t) := by
  intro pins s σ H v u Q I r h
  rw [ha]
  refine wpAny_bind (wpAny_holding (thn (ho pins s σ H _ I h) fun ov s1 ⟨x, H1, I1, r1, q1⟩ => ?_))
  refine wpAny_bind (wpAny_holding (thn (hi pins s1 σ H1 _ I1 q1) fun iv s2 ⟨y, H2, I2, r2, q2⟩ => ?_))
  refine wpAny_bind (wpAny_standAt (wpAny_bind (wpAny_holding (thn (hs pins s2 σ H2 x y v ov iv u _ I2 r1 r2 r q2) fun _ s3 ⟨H3, I3, q3⟩ => ?_))))
  exact wpAny_release ⟨σ, H3, I3, q3⟩
def tAsg (te : TE) (g : TG) : TS := fun D σ H => te σ H fun x H1 => g x σ H1 D.nx
theorem ps_asg {tg e : Expr} {te : TE} {g : TG} (he : PE X e te) (hg : PG X tg g) (hs : swapsWithSole [tg] e pos.line X.env = pure false := by rfl) (hw : swappedStores [tg] e X.env = pure none := by rfl)
    (h1 : (assignEach [tg] X.env).map (·.2) = [assign tg X.env] := by rfl) : PS X (.Assign [tg] e pos) (tAsg te g) := by
  intro pins s σ H D I h
  refine wpAny_Assign_stores (thn (he pins s σ H _ I h) fun v s1 ⟨x, H1, I1, r1, q1⟩ => ?_) hs hw
  rw [h1]
  exact thn (hg pins s1 σ H1 x v _ I1 r1 q1) fun _ s2 q => q
theorem ps_set {i : Nat} {x : Str} {e : Expr} {te : TE} {pos' : Pos} (hN : X.N.Nodup) (hi : X.N[i]? = some x) (hx : Loc X.env.scope x) (he : PE X e te) (hs : swapsWith e (some (.Name x pos')) pos.line X.env = pure false := by rfl) (hf : X.fn x = true ∨ X.env.scope.names.lookup x = some .local := by first | exact .inl rfl | exact .inr rfl | assumption) :
    PS X (.Assign [.Name x pos'] e pos) (tAsg te (gName i)) := by
  intro pins s σ H D I h
  refine wpAny_Assign_Name (thn (he pins s σ H _ I h) fun v s1 ⟨y, H1, I1, r1, q1⟩ => ?_) hs
  exact store_ok I1 hN hi hx r1 (fun s2 I2 => ⟨_, H1, I2, q1⟩) hf
def tPar (i j : Nat) (ta : TA) : TS := fun D σ H => ta σ H fun vs H1 => ∃ v w, vs = [v, w] ∧ D.nx ((σ.set i (some v)).set j (some w)) H1
theorem ps_par {i j : Nat} {x y : Str} {a b : Expr} {ta : TA} {px py pt : Pos} {kt k2 pt2} (hc : X.calm = true) (hN : X.N.Nodup) (hi : X.N[i]? = some x) (hj : X.N[j]? = some y) (hij : i ≠ j)
    (hx : X.env.scope.names.lookup x = some .local) (hy : X.env.scope.names.lookup y = some .local) (ha : PA X [a, b] ta)
    (hw : swappedStores [.Tuple [.Name x px, .Name y py] kt pt] (.Tuple [a, b] k2 pt2) X.env = pure (some [x, y]))
    (hs : swapsWithSole [.Tuple [.Name x px, .Name y py] kt pt] (.Tuple [a, b] k2 pt2) pos.line X.env = pure false := by rfl) :
    PS X (.Assign [.Tuple [.Name x px, .Name y py] kt pt] (.Tuple [a, b] k2 pt2) pos) (tPar i j ta) := by
  intro pins s σ H D I h
  rw [exec_Assign_arm]
  refine wpAny_bind (wpAny_standAt ?_)
  rw [hs]
  refine wpAny_bind (wpAny_pure ?_)
  rw [if_neg (by decide)]
  refine wpAny_bind (Tuple_ (thn (ha _ pins s σ H _ I h) fun us s1 ⟨vs, H1, I1, r1, q1⟩ => ?_))
  obtain ⟨v, w, e1, q1⟩ := q1
  subst e1
  obtain ⟨u1, u2, rfl, rv, rw'⟩ : ∃ u1 u2, us = [u1, u2] ∧ RelV v u1 ∧ RelV w u2 := by
    cases r1 with
    | cons p q =>
      cases q with
      | cons p' q' =>
        cases q'
        exact ⟨_, _, rfl, p, p'⟩
  refine wpAny_newObj_type ?_ (by show 2 ≤ sizeLine; decide)
  have I2 : Inv X pins σ H1 { s1 with heap := s1.heap.push { cls := .type "tuple", data := .seq [u1, u2].toArray } } := I1.kept (t' := s1.toks) fun b o e => Heap.get?_push_of_some _ e
  rw [hw]
  refine wpAny_bind (wpAny_pure ?_)
  show wpAny (model X.prog X.w) X.A (do rule "assign.swapped-stores"; let items ← unpackItems (.ref s1.heap.objs.size) 2 none; assignInOrder [fun v => bindName X.env y v, fun v => bindName X.env x v] items.reverse; pure Flow.next) _ _ _
  refine wpAny_bind (wpAny_rule (wpAny_bind (unpackItems_tuple (items := #[u1, u2]) (I.ok.hd hc) (IsTup.new s1.heap _) fun h' hx' => ?_)))
  have I3 := I2.kept (h' := h') (t' := s1.toks) fun b o e => hx' b o (Nat.ne_of_lt (Heap.lt_size e)) e
  show wpAny _ _ (assignInOrder [fun v => bindName X.env y v, fun v => bindName X.env x v] [u2, u1] >>= fun _ => pure Flow.next) _ _ _
  refine wpAny_bind (assignInOrder_cons (wpAny_bindName (store_ok I3 hN hj (.inl hy) rw' (fun s2 I4 => ?_) (.inr hy))))
  refine assignInOrder_cons (wpAny_bindName (store_ok I4 hN hi (.inl hx) rv (fun s3 I5 => assignInOrder_nil (wpAny_pure ?_)) (.inr hx)))
  rw [List.set_comm _ _ (Ne.symm hij)] at I5
  exact ⟨_, H1, I5, q1⟩
def tAug (i : Nat) (te : TE) (ti : TIp) : TS := fun D σ H => ∃ x, σ[i]? = some (some x) ∧ te σ H fun y H1 => ti x y H1 fun z H2 => D.nx (σ.set i (some z)) H2
theorem ps_aug {i : Nat} {x : Str} {e : Expr} {te : TE} {op : Operator} {ti : TIp} {pos' : Pos} (hN : X.N.Nodup) (hi : X.N[i]? = some x) (hx : Loc X.env.scope x) (he : PE X e te) (ho : PIp X op ti) (hf : X.fn x = true ∨ X.env.scope.names.lookup x = some .local := by first | exact .inl rfl | exact .inr rfl | assumption) :
    PS X (.AugAssign (.Name x pos') op e pos) (tAug i te ti) := by
  intro pins s σ H D I h
  obtain ⟨v, e1, h⟩ := h
  obtain ⟨m, hn, hl⟩ := I.loc
  have vis : Vis X.env.scope x := by rcases hx with k | k; exact .inl k; exact .inr (.inl k)
  obtain ⟨u, r, l⟩ := hl i x v hi e1 vis
  refine wpAny_AugAssign_Name ?_
  have go : wpAny (model X.prog X.w) X.A (eval e X.env) (fun w s₂ => wpAny (model X.prog X.w) X.A (inplaceOp op u w) (fun r s₃ => wpAny (model X.prog X.w) X.A (storeName X.env x r) (fun _ => SP X pins D .next) X.xe s₃) X.xe s₂) X.xe s := by
    refine thn (he pins s σ H _ I h) fun w s1 ⟨y, H1, I1, r1, q1⟩ => ?_
    refine thn (ho pins s1 σ H1 v y u w _ I1 r r1 q1) fun z s2 ⟨zv, H2, I2, r2, q2⟩ => ?_
    exact store_ok I2 hN hi hx r2 (fun s3 I3 => ⟨_, H2, I3, q2⟩) hf
  rcases l with ⟨hk, hm⟩ | ⟨hk, c, hc, hcell⟩
  · exact wpAny_loadName_local I.ok.kind hk hn hm go
  · rcases hk with hk | hk
    · exact wpAny_loadName_cell I.ok.kind hk hc hcell go
    · rcases hx with k | k
      · have : X.env.scope.names.lookup x = some .free := hk
        rw [k] at this; cases this
      · have : X.env.scope.names.lookup x = some .free := hk
        rw [k] at this; cases this
def ipI (f : Int → Int → Int) : TIp := fun x y H Q => ∃ i j, x = .int i ∧ y = .int j ∧ Q (.int (f i j)) H
theorem ip_add : PIp X .Add (ipI fun i j => i + j) := by
  intro pins s σ H x y v u Q I r1 r2 h
  obtain ⟨i, j, e1, e2, q⟩ := h
  subst e1; subst e2
  obtain ⟨t, rfl⟩ := r1
  obtain ⟨t', rfl⟩ := r2
  exact iadd_int ⟨.int _, H, I.tok _, ⟨_, rfl⟩, q⟩
end
section
variable {X : Cx} {pos : Pos}
def tWhile (c : TT) (tb : TS) : TS := fun D σ H => ∃ W : Nat → St → Hp → Prop, (∃ m, W m σ H) ∧ ∀ m σ H, W m σ H →
  c σ H fun b H1 => if b = true then ∃ N : St → Hp → Prop, (∀ σ' H', N σ' H' → ∃ m', m' < m ∧ W m' σ' H') ∧ tb { D with nx := N, ct := N, bk := D.nx } σ H1 else D.nx σ H1
theorem ps_while {c : Expr} {body : List Stmt} {tc : TT} {tb : TS} (hp : PassesOwn (model X.prog X.w) X.A X.env X.xe) (hc : PT X c tc) (hb : PSs X body tb) : PS X (.While c body [] pos) (tWhile tc tb) := by
  intro pins s σ H D I h
  obtain ⟨W, ⟨m0, w0⟩, turn⟩ := h
  refine wpAny_While (codeAny_whileLoop (fun n s' => ∃ σ' H', Inv X pins σ' H' s' ∧ W n σ' H') ?_ m0 ⟨σ, H, I, w0⟩)
  rintro n s1 ⟨σ1, H1, I1, w1⟩
  refine wpAny_passesOwn hp (thn (hc pins s1 σ1 H1 _ I1 (turn n σ1 H1 w1)) fun b s2 ⟨H2, I2, q2⟩ => ?_)
  cases b with
  | true =>
    obtain ⟨N, hN, q2⟩ := q2
    rw [if_pos rfl]
    refine wpAny_passesOwn hp (thn (hb pins s2 σ1 H2 _ I2 q2) fun f s3 q3 => ?_)
    cases f with
    | next =>
      obtain ⟨σ3, H3, I3, n3⟩ := q3
      obtain ⟨m', hm, w3⟩ := hN σ3 H3 n3
      exact ⟨m', hm, σ3, H3, I3, w3⟩
    | cont =>
      obtain ⟨σ3, H3, I3, n3⟩ := q3
      obtain ⟨m', hm, w3⟩ := hN σ3 H3 n3
      exact ⟨m', hm, σ3, H3, I3, w3⟩
    | brk => exact q3
    | ret v => exact q3
  | false =>
    rw [if_neg Bool.false_ne_true]
    exact wpAny_execs_nil ⟨σ1, H2, I2, q2⟩
end
structure It where
  go : Nat → Hp → Prop
  yld : Nat → Hp → V → Hp → Prop
  stop : Nat → Hp → Prop
def FpOk (X : Cx) (pins : List (Addr × Obj)) (H : Hp) (b : Addr) : Prop :=
  H b = none ∧ b ≠ X.env.locals ∧ b ∉ X.fs ∧ (b ∈ X.ex ∨ X.s_0.heap.objs.size ≤ b) ∧ (∀ x c, X.env.cells.lookup x = some c → c ≠ b) ∧ ∀ p ∈ X.pn ++ pins, p.1 ≠ b
theorem Inv.fpOk {X : Cx} {pins : List (Addr × Obj)} {σ : St} {H H' : Hp} {s : Shared} {b : Addr} (I : Inv X pins σ H s) (hb : s.heap.objs.size ≤ b) (hn : H' b = none) : FpOk X pins H' b := by
  refine ⟨hn, Nat.ne_of_gt (Nat.lt_of_lt_of_le I.lt hb), I.nofs hb, .inr (Nat.le_trans I.sz hb), fun x c e z => ?_, fun p hp z => ?_⟩
  · obtain ⟨v, q⟩ := I.cell x c e
    exact absurd (Nat.lt_of_lt_of_le q.lt (by rw [z]; exact hb)) (Nat.lt_irrefl _)
  · exact absurd (Nat.lt_of_lt_of_le (Heap.lt_size (I.pin p hp).1) (by rw [z]; exact hb)) (Nat.lt_irrefl _)
structure Turn (P : Program) (w : World) (K : PySem.W.Frag) (tg : Expr) (J : It) (fp : List Addr) (it : Addr) (tn : Nat → Heap → Prop) : Prop where
  mem : it ∈ fp
  obj : ∀ i h, tn i h → ∀ b ∈ fp, ∃ o, h.get? b = some o ∧ ∀ v, o.data ≠ .cell v
  keep : ∀ i h h', tn i h → (∀ b ∈ fp, ∀ o, h.get? b = some o → h'.get? b = some o) → tn i h'
  item : ∀ (X : Cx), X.prog = P → X.w = w → X.K = K → X.calm = true → ∀ (i : Nat) (pins : List (Addr × Obj)) (s : Shared) (σ : St) (H : Hp) (E : Value → Shared → Prop), Inv X pins σ H s → (∀ b ∈ fp, FpOk X pins H b) → tn i s.heap → J.go i H →
    wpAny (model P w) X.A (pyNext (.ref it)) (fun r s1 => ∃ u, r = some u ∧
      wpAny (model P w) X.A (letOwnedTupleGo tg (.ref it) u) (fun _ s2 => ∃ x H', Inv X pins σ H' s2 ∧ RelV x u ∧ J.yld i H x H' ∧ tn (i + 1) s2.heap ∧ ∀ b ∈ fp, H' b = none) E s1) E s
  done : ∀ (X : Cx), X.prog = P → X.w = w → X.K = K → X.calm = true → ∀ (i : Nat) (pins : List (Addr × Obj)) (s : Shared) (σ : St) (H : Hp) (E : Value → Shared → Prop), Inv X pins σ H s → (∀ b ∈ fp, FpOk X pins H b) → tn i s.heap → J.stop i H →
    wpAny (model P w) X.A (pyNext (.ref it)) (fun r s1 => r = none ∧ Inv X pins σ H s1) E s
  self : ∀ (A : Around) (i : Nat) (s : Shared) (Q : Value → Shared → Prop) (E : Value → Shared → Prop), tn i s.heap → Q (.ref it) s → wpAny (model P w) A (pyIter (.ref it)) Q E s
abbrev TI := St → Hp → (It → Hp → Prop) → Prop
def PIE (X : Cx) (pins : List (Addr × Obj)) (σ : St) (tg : Expr) (R : It → Hp → Prop) (itv : Value) (s2 : Shared) : Prop :=
  ∃ (it : Addr) (fp : List Addr) (tn : Nat → Heap → Prop) (J : It) (H' : Hp), itv = .ref it ∧ Inv X pins σ H' s2 ∧ Turn X.prog X.w X.K tg J fp it tn ∧ tn 0 s2.heap ∧ (∀ b ∈ fp, FpOk X pins H' b) ∧ R J H'
def PI (X : Cx) (tg iter : Expr) (wi : TI) : Prop :=
  ∀ (pins : List (Addr × Obj)) (s : Shared) (σ : St) (H : Hp) (R : It → Hp → Prop), Inv X pins σ H s → wi σ H R →
    wpAny (model X.prog X.w) X.A (eval iter X.env) (fun v s1 => wpAny (model X.prog X.w) X.A (pyIter v) (PIE X pins σ tg R) X.xe s1) X.xe s
theorem go_of {M : Model} {A : Around} {E : Value → Shared → Prop} {s : Shared} {tg : Expr} {it : Addr} {u : Value} {o : Obj} {n : String} {vs : Array Value} {Q : Unit → Shared → Prop} (ho : s.heap.get? it = some o) (hc : o.cls = .type n) (hd : o.data = .fields vs)
    (hn : ["enumerate", "zip", "dict_itemiterator", "dict_reverseitemiterator", "odict_iterator", "itertools.zip_longest", "itertools.pairwise"].contains n = false) (hQ : Q () s) : wpAny M A (letOwnedTupleGo tg (.ref it) u) Q E s := by
  unfold letOwnedTupleGo
  cases tg <;> first
    | exact wpAny_pure hQ
    | (cases u <;> first
        | exact wpAny_pure hQ
        | (refine wpAny_bind (wpAny_load ho ?_)
           rw [hc, hd]
           show wpAny M A (if (["enumerate", "zip", "dict_itemiterator", "dict_reverseitemiterator", "odict_iterator", "itertools.zip_longest", "itertools.pairwise"].contains n && vs[0]? == some (rawInt _)) = true then _ else _) Q E s
           rw [if_neg (by intro h; rw [hn, Bool.false_and] at h; cases h)]
           exact wpAny_pure hQ))
def Itl (K : PySem.W.Frag) (a : Addr) : It :=
  ⟨fun i H => ∃ xs x, SqL K H a xs ∧ xs[i]? = some x, fun i H x H' => H' = H ∧ ∀ xs, SqL K H a xs → xs[i]? = some x, fun i H => ∃ xs, SqL K H a xs ∧ xs.length ≤ i⟩
def Itr (lo : Int) (n : Nat) : It := ⟨fun i _ => i < n, fun i H x H' => H' = H ∧ x = .int (lo + i), fun i _ => n ≤ i⟩
theorem turn_list {P : Program} {w : World} {K : PySem.W.Frag} {tg : Expr} (a it : Addr) : Turn P w K tg (Itl K a) [it] it (fun i h => h.IsListIter it a i) where
  mem := by simp
  obj := fun i h st b hb => by
    have e : b = it := by simpa using hb
    subst e
    obtain ⟨o, e, c, d⟩ := st
    exact ⟨o, e, fun v z => by rw [d] at z; cases z⟩
  keep := fun i h h' st k => st.at fun o e => k it (by simp) o e
  item := by
    intro X hP hw hK hc i pins s σ H E I hf st hg
    subst hP hw hK
    obtain ⟨xs, x, hq, hx⟩ := hg
    obtain ⟨its, rv, p, hz⟩ := I.list hq
    obtain ⟨u, hu, ru⟩ := rv.get hx
    obtain ⟨f0, f1, f2, f3, f4, f5⟩ := hf it (by simp)
    refine wpAny_pyNext_list_item st p.isList (x := u) (by simpa using hu) fun h' st' sb => ?_
    have I1 : Inv X pins σ H { s with heap := h' } := I.turned (t' := s.toks) (fun b o hb e => (sb.2 b hb).trans e) f0 f1 f3 f4 f5
    obtain ⟨o, e, c, d⟩ := id st'
    exact ⟨u, rfl, go_of (s := { s with heap := h' }) e c d (by decide) ⟨x, H, I1, ru, ⟨rfl, fun ys hy => by rw [I.list_inj hy hq]; exact hx⟩, st', fun b hb => (hf b hb).1⟩⟩
  done := by
    intro X hP hw hK hc i pins s σ H E I hf st hg
    subst hP hw hK
    obtain ⟨xs, hq, hx⟩ := hg
    obtain ⟨its, rv, p, hz⟩ := I.list hq
    obtain ⟨f0, f1, f2, f3, f4, f5⟩ := hf it (by simp)
    have hl := rv.length
    exact wpAny_pyNext_list_end (I.ok.hd hc) st p.isList (by simp; omega) fun h' eb => ⟨rfl, I.turned (t' := s.toks) (fun b o hb e => eb b o hb e) f0 f1 f3 f4 f5⟩
  self := fun _ _ _ _ _ st h => wpAny_pyIter_listiter st h
theorem turn_range {P : Program} {w : World} {K : PySem.W.Frag} {tg : Expr} (it : Addr) (lo : Int) (n : Nat) : Turn P w K tg (Itr lo n) [it] it (fun i h => IsRangeIter h it (lo + (i : Nat) * 1) ((n : Int) - (i : Nat)) 1) where
  mem := by simp
  obj := fun i h st b hb => by
    have e : b = it := by simpa using hb
    subst e
    exact ⟨_, st, fun v z => by
      have z' : Data.fields _ = Data.cell v := z
      cases z'⟩
  keep := fun i h h' st k => k it (by simp) _ st
  item := by
    intro X hP hw hK hc i pins s σ H E I hf st hg
    subst hP hw hK
    obtain ⟨f0, f1, f2, f3, f4, f5⟩ := hf it (by simp)
    have W := Walks.range (prog := X.prog) (w := X.w) (I.ok.hd hc) it lo 1 n
    refine W.item i s _ _ hg st fun v h' tk hv st' kk => ?_
    obtain ⟨t, rfl⟩ := hv
    have I1 : Inv X pins σ H { s with heap := h', toks := tk } := I.turned (fun b o hb e => kk b o (by simpa using hb) e) f0 f1 f3 f4 f5
    refine ⟨_, rfl, go_of (s := { s with heap := h', toks := tk }) (n := "range_iterator") st' rfl rfl (by decide) ⟨.int (lo + i), H, I1, ⟨t, ?_⟩, ⟨rfl, rfl⟩, st', fun b hb => (hf b hb).1⟩⟩
    rw [Int.mul_one]
  done := by
    intro X hP hw hK hc i pins s σ H E I hf st hg
    subst hP hw hK
    obtain ⟨f0, f1, f2, f3, f4, f5⟩ := hf it (by simp)
    exact wpAny_pyNext_range_end (I.ok.hd hc) st (by have : n ≤ i := hg; omega) fun h' eb => ⟨rfl, I.turned (t' := s.toks) (fun b o hb e => eb b o hb e) f0 f1 f3 f4 f5⟩
  self := fun _ _ _ _ _ st h => wpAny_pyIter_rangeiter st h
end L2
namespace L2
open PySem PySem.Spec PyProof.Rows
section
variable {X : Cx} {tg : Expr}
def iList (K : PySem.W.Frag) (tl : TE) : TI := fun σ H R => tl σ H fun x H1 => ∃ a, x = .ref a ∧ (∃ xs, SqL K H1 a xs) ∧ R (Itl K a) H1
theorem pi_list {l : Expr} {tl : TE} (hl : PE X l tl) : PI X tg l (iList X.K tl) := by
  intro pins s σ H R I h
  refine thn (hl pins s σ H _ I h) fun v s1 ⟨x, H1, I1, r1, q1⟩ => ?_
  obtain ⟨a, e, ⟨xs, hq⟩, q⟩ := q1
  subst e
  cases r1
  obtain ⟨its, rv, p, hz⟩ := I1.list hq
  refine wpAny_pyIter_list p.isList ?_
  refine ⟨s1.heap.objs.size, [s1.heap.objs.size], _, _, H1, rfl, I1.kept (t' := s1.toks) fun b o e => Heap.get?_push_of_some _ e, turn_list a _, ⟨_, Heap.get?_push_size _ rfl, rfl, rfl⟩, fun b hb => ?_, q⟩
  have e : b = s1.heap.objs.size := by simpa using hb
  subst e
  exact I1.fpOk (Nat.le_refl _) (I1.hok.fresh (Nat.le_refl _))
theorem range_it {pins : List (Addr × Obj)} {σ : St} {H : Hp} {s : Shared} {R : It → Hp → Prop} {E : Value → Shared → Prop} {lo hi : Int} {t u v : Tok} {tk : Nat} (I : Inv X pins σ H s) (h1 : -(2 ^ 62) ≤ lo) (h2 : lo < 2 ^ 62) (h3 : -(2 ^ 62) ≤ hi) (h4 : hi < 2 ^ 62)
    (q : R (Itr lo (hi - lo).toNat) H) : wpAny (model X.prog X.w) X.A (pyIter (.ref s.heap.objs.size)) (PIE X pins σ tg R) E { s with heap := s.heap.push { cls := .type "range", data := .fields #[.int lo t, .int hi u, .int 1 v] }, toks := tk } := by
  refine wpAny_pyIter_range (IsRange.new ..) (small_one h1 h2 h3 h4) ?_
  have I1 : Inv X pins σ H { s with heap := s.heap.push { cls := .type "range", data := .fields #[.int lo t, .int hi u, .int 1 v] }, toks := tk } := I.kept fun b o e => Heap.get?_push_of_some _ e
  refine ⟨(s.heap.push { cls := .type "range", data := .fields #[.int lo t, .int hi u, .int 1 v] }).objs.size, [(s.heap.push { cls := .type "range", data := .fields #[.int lo t, .int hi u, .int 1 v] }).objs.size], _, _, H, rfl,
    I1.kept (t' := tk) fun b o e => Heap.get?_push_of_some _ e, turn_range _ lo (hi - lo).toNat, ?_, fun b hb => ?_, q⟩
  · have e1 : lo + ((0 : Nat) : Int) * 1 = lo := by simp
    have e2 : (((hi - lo).toNat : Nat) : Int) - ((0 : Nat) : Int) = Builtin.Range.rangeSize lo hi 1 := by rw [rangeSize_one]; split <;> omega
    show IsRangeIter _ _ (lo + ((0 : Nat) : Int) * 1) ((((hi - lo).toNat : Nat) : Int) - ((0 : Nat) : Int)) 1
    rw [e1, e2]
    exact Heap.get?_push_size _ rfl
  · have e : b = (s.heap.push { cls := .type "range", data := .fields #[.int lo t, .int hi u, .int 1 v] }).objs.size := by simpa using hb
    subst e
    exact I1.fpOk (Nat.le_refl _) (I1.hok.fresh (Nat.le_refl _))
def iRng1 (ta : TA) : TI := fun σ H R => ta σ H fun vs H1 => ∃ j : Int, vs = [.int j] ∧ -(2 ^ 62) ≤ j ∧ j < 2 ^ 62 ∧ R (Itr 0 j.toNat) H1
theorem pi_range1 {a : Expr} {ta : TA} {p pos : Pos} (hg : Gl X "range") (hm : X.mg "range" = none) (ha : PA X [a] ta) (hs : starEach [a] X.env = [(false, eval a X.env)] := by rfl) : PI X tg (.Call (.Name "range" p) [a] [] pos) (iRng1 ta) := by
  intro pins s σ H R I h
  refine Call_ (ld_blt I hg hm boot_range (PyProof.Rows.callWith_type1 (thn (ha pos pins s σ H _ I h) fun us s1 ⟨vs, H1, I1, r1, q1⟩ => ?_) hs rfl))
  obtain ⟨j, e, q1, q2, q⟩ := q1
  subst e
  cases r1 with
  | cons r rr =>
    cases rr
    obtain ⟨t, rfl⟩ := r
    exact call_range_1 (range_it I1 (by omega) (by omega) q1 q2 (by simpa using q))
def tFor (wi : TI) (g : TG) (tb : TS) : TS := fun D σ H => wi σ H fun J H1 => ∃ W : Nat → Nat → St → Hp → Prop, (∃ m, W 0 m σ H1) ∧ ∀ i m σ H, W i m σ H →
  (J.stop i H ∧ D.nx σ H) ∨ (J.go i H ∧ ∃ N : St → Hp → Prop, (∀ σ' H', N σ' H' → ∃ m', m' < m ∧ W (i + 1) m' σ' H') ∧ ∀ x H', J.yld i H x H' → g x σ H' fun σ2 H2 => tb { D with nx := N, ct := N, bk := D.nx } σ2 H2)
def pinsAt (fp : List Addr) (h : Heap) : List (Addr × Obj) := fp.filterMap fun b => (h.get? b).map fun o => (b, o)
theorem mem_pinsAt {fp : List Addr} {h : Heap} {b : Addr} {o : Obj} (hb : b ∈ fp) (e : h.get? b = some o) : (b, o) ∈ pinsAt fp h := List.mem_filterMap.mpr ⟨b, hb, by rw [e]; rfl⟩
theorem of_pinsAt {fp : List Addr} {h : Heap} {p : Addr × Obj} (hp : p ∈ pinsAt fp h) : p.1 ∈ fp ∧ h.get? p.1 = some p.2 := by
  obtain ⟨b, hb, e⟩ := List.mem_filterMap.mp hp
  cases q : h.get? b with
  | none => rw [q] at e; cases e
  | some o =>
    rw [q] at e
    have e' : (b, o) = p := Option.some.inj e
    subst e'
    exact ⟨hb, q⟩
theorem Inv.pinned {pins : List (Addr × Obj)} {σ : St} {H : Hp} {s : Shared} {fp : List Addr} (I : Inv X pins σ H s) (hf : ∀ b ∈ fp, FpOk X pins H b) (ho : ∀ b ∈ fp, ∃ o, s.heap.get? b = some o ∧ ∀ v, o.data ≠ .cell v) : Inv X (pins ++ pinsAt fp s.heap) σ H s :=
  I.pins_of fun p hp => (List.mem_append.mp hp).elim (fun z => I.pin p (List.mem_append_right _ z)) fun z => by
    obtain ⟨hb, e⟩ := of_pinsAt z
    obtain ⟨f0, f1, f2, _⟩ := hf p.1 hb
    obtain ⟨o, e', d⟩ := ho p.1 hb
    rw [e] at e'; cases e'
    exact ⟨e, f0, f1, f2, d⟩
theorem Inv.unpinned {pins pl : List (Addr × Obj)} {σ : St} {H : Hp} {s : Shared} (I : Inv X (pins ++ pl) σ H s) : Inv X pins σ H s := I.pins_of fun p hp => I.pin p (List.mem_append_right _ (List.mem_append_left _ hp))
theorem ps_for {iter : Expr} {body : List Stmt} {wi : TI} {g : TG} {tb : TS} {pos : Pos} (hp : PassesOwn (model X.prog X.w) X.A X.env X.xe) (hc : X.calm = true) (hi : PI X tg iter wi) (hg : PG X tg g) (hb : PSs X body tb)
    (hs : ∀ x, foldedSetIterable iter X.env x = pure x := by intro _; rfl) : PS X (.For tg iter body [] pos) (tFor wi g tb) := by
  intro pins s σ H D I h
  refine wpAny_For (thn (hi pins s σ H _ I h) fun v s1 h1 => thn h1 fun itv s2 h2 => ?_) hs
  obtain ⟨it, fp, tn, J, H2, e, I2, T, st2, f2, W, ⟨m0, w0⟩, turn⟩ := h2
  subst e
  -- what stays true of the iterator's objects through the loop
  have stat : ∀ {H' : Hp}, (∀ b ∈ fp, H' b = none) → ∀ b ∈ fp, FpOk X pins H' b := fun hn b hb => ⟨hn b hb, (f2 b hb).2⟩
  refine codeAny_forLoop_any (fun n s' => ∃ i σ' H', Inv X pins σ' H' s' ∧ tn i s'.heap ∧ (∀ b ∈ fp, H' b = none) ∧ W i n σ' H') ?_ m0 ⟨0, σ, H2, I2, st2, fun b hb => (f2 b hb).1, w0⟩
  rintro n s3 ⟨i, σ3, H3, I3, st3, fr3, w3⟩
  rcases turn i n σ3 H3 w3 with ⟨stop, qn⟩ | ⟨go, N, hN, step⟩
  · refine wpAny_passesOwn hp (thn (T.done X rfl rfl rfl hc i pins s3 σ3 H3 X.xe I3 (stat fr3) st3 stop) fun r s4 ⟨hr, I4⟩ => ?_)
    subst hr
    exact wpAny_execs_nil ⟨σ3, H3, I4, qn⟩
  · refine wpAny_passesOwn hp (thn (T.item X rfl rfl rfl hc i pins s3 σ3 H3 X.xe I3 (stat fr3) st3 go) fun r s4 ⟨u, hr, h4⟩ => ?_)
    subst hr
    refine wpAny_passesOwn hp (thn h4 fun _ s5 ⟨x, H5, I5, r5, y5, st5, fr5⟩ => ?_)
    have I5' := I5.pinned (stat fr5) (T.obj _ _ st5)
    refine wpAny_passesOwn hp (thn (hg _ s5 σ3 H5 x u _ I5' r5 (step x H5 y5)) fun _ s6 ⟨σ6, H6, I6, q6⟩ => ?_)
    refine wpAny_passesOwn hp (thn (hb _ s6 σ6 H6 _ I6 q6) fun f s7 q7 => ?_)
    have again : ∀ {σ7 : St} {H7 : Hp}, Inv X (pins ++ pinsAt fp s5.heap) σ7 H7 s7 → N σ7 H7 → ∃ m, m < n ∧ ∃ i σ' H', Inv X pins σ' H' s7 ∧ tn i s7.heap ∧ (∀ b ∈ fp, H' b = none) ∧ W i m σ' H' := fun {σ7 H7} I7 n7 => by
      obtain ⟨m', hm, w7⟩ := hN σ7 H7 n7
      refine ⟨m', hm, i + 1, σ7, H7, I7.unpinned, T.keep _ _ _ st5 fun b hb o e => (I7.pin (b, o) (List.mem_append_right _ (List.mem_append_right _ (mem_pinsAt hb e)))).1, fun b hb => ?_, w7⟩
      obtain ⟨o, e, d⟩ := T.obj _ _ st5 b hb
      exact (I7.pin (b, o) (List.mem_append_right _ (List.mem_append_right _ (mem_pinsAt hb e)))).2.1
    cases f with
    | next => obtain ⟨σ7, H7, I7, n7⟩ := q7; exact again I7 n7
    | cont => obtain ⟨σ7, H7, I7, n7⟩ := q7; exact again I7 n7
    | brk => obtain ⟨σ7, H7, I7, q7⟩ := q7; exact ⟨σ7, H7, I7.unpinned, q7⟩
    | ret v => obtain ⟨x7, σ7, H7, I7, r7, q7⟩ := q7; exact ⟨x7, σ7, H7, I7.unpinned, r7, q7⟩
end
end L2
namespace L2
open PySem PySem.Spec PyProof.Rows
abbrev R2 := V → V → Hp → VK → Prop
def OpR (X : Cx) (f : Value → Value → Sem Value) (r : R2) : Prop :=
  ∀ (pins : List (Addr × Obj)) (s : Shared) (σ : St) (H : Hp) (x y : V) (v u : Value) (Q : VK), Inv X pins σ H s → RelV x v → RelV y u → r x y H Q →
    wpAny (model X.prog X.w) X.A (f v u) (EP X pins σ Q) X.xe s
def UnR (X : Cx) (f : Value → Sem Value) (r : V → Hp → VK → Prop) : Prop :=
  ∀ (pins : List (Addr × Obj)) (s : Shared) (σ : St) (H : Hp) (x : V) (v : Value) (Q : VK), Inv X pins σ H s → RelV x v → r x H Q →
    wpAny (model X.prog X.w) X.A (f v) (EP X pins σ Q) X.xe s
def CallR (X : Cx) (f : Value) (r : List V → Hp → VK → Prop) : Prop :=
  ∀ (pins : List (Addr × Obj)) (s : Shared) (σ : St) (H : Hp) (xs : List V) (us : List Value) (Q : VK), Inv X pins σ H s → Vals xs us → r xs H Q →
    wpAny (model X.prog X.w) X.A (call f us) (EP X pins σ Q) X.xe s
def tOp (r : R2) (ta tb : TE) : TE := fun σ H Q => ta σ H fun x H1 => tb σ H1 fun y H2 => r x y H2 Q
def tUn (r : V → Hp → VK → Prop) (ta : TE) : TE := fun σ H Q => ta σ H fun x H1 => r x H1 Q
def rI (C : Int → Int → Prop) (g : Int → Int → V) : R2 := fun x y H Q => ∃ i j, x = .int i ∧ y = .int j ∧ C i j ∧ Q (g i j) H
def rI0 (g : Int → Int → V) : R2 := fun x y H Q => ∃ i j, x = .int i ∧ y = .int j ∧ Q (g i j) H
def rU (g : Int → V) : V → Hp → VK → Prop := fun x H Q => ∃ i, x = .int i ∧ Q (g i) H
section
variable {X : Cx} {a b c : Expr} {ta tb tc : TE} {pos : Pos}
theorem binT (ha : PE X a ta) (hb : PE X b tb) {pins : List (Addr × Obj)} {s : Shared} {σ : St} {H : Hp} {R : V → V → Hp → Prop} (I : Inv X pins σ H s)
    (h : ta σ H fun x H1 => tb σ H1 fun y H2 => R x y H2) {Q : Value → Shared → Prop} {f : Value → Value → Sem Value}
    (hf : ∀ v u s2 x y H2, Inv X pins σ H2 s2 → RelV x v → RelV y u → R x y H2 → wpAny (model X.prog X.w) X.A (f v u) Q X.xe s2) :
    wpAny (model X.prog X.w) X.A (eval a X.env) (fun v s₁ => wpAny (model X.prog X.w) X.A (eval b X.env) (fun u s₂ => wpAny (model X.prog X.w) X.A (f v u) Q X.xe s₂) X.xe s₁) X.xe s := by
  refine thn (ha pins s σ H _ I h) fun v s1 ⟨x, H1, I1, r1, q1⟩ => ?_
  refine thn (hb pins s1 σ H1 _ I1 q1) fun u s2 ⟨y, H2, I2, r2, q2⟩ => ?_
  exact hf v u s2 x y H2 I2 r1 r2 q2
theorem pe_op {op : Operator} {r : R2} (ho : OpR X (binaryOp op) r) (ha : PE X a ta) (hb : PE X b tb) : PE X (.BinOp a op b pos) (tOp r ta tb) := by
  intro pins s σ H Q I h
  exact wpAny_BinOp (binT ha hb I h fun v u s2 x y H2 I2 rx ry q => ho pins s2 σ H2 x y v u Q I2 rx ry q)
theorem pe_un {op : UnaryOp} {r : V → Hp → VK → Prop} (ho : UnR X (unaryOp op) r) (ha : PE X a ta) : PE X (.UnaryOp op a pos) (tUn r ta) := by
  intro pins s σ H Q I h
  exact UnaryOp_ (thn (ha pins s σ H _ I h) fun v s1 ⟨x, H1, I1, r1, q1⟩ => ho pins s1 σ H1 x v Q I1 r1 q1)
theorem opI {f : Value → Value → Sem Value} {C : Int → Int → Prop} {g : Int → Int → Int}
    (rule : ∀ (i j : Int) (t u : Tok) (s : Shared) (Q : Value → Shared → Prop) (E : Value → Shared → Prop), C i j → Q (.int (g i j) s.toks) { s with toks := s.toks + 1 } → wpAny (model X.prog X.w) X.A (f (.int i t) (.int j u)) Q E s) :
    OpR X f (rI C fun i j => .int (g i j)) := by
  intro pins s σ H x y v u Q I rx ry h
  obtain ⟨i, j, rfl, rfl, hc, q⟩ := h
  obtain ⟨t, rfl⟩ := rx
  obtain ⟨t', rfl⟩ := ry
  exact rule i j t t' s _ _ hc ⟨.int (g i j), H, I.tok _, ⟨_, rfl⟩, q⟩
theorem opI0 {f : Value → Value → Sem Value} {g : Int → Int → Int}
    (rule : ∀ (i j : Int) (t u : Tok) (s : Shared) (Q : Value → Shared → Prop) (E : Value → Shared → Prop), Q (.int (g i j) s.toks) { s with toks := s.toks + 1 } → wpAny (model X.prog X.w) X.A (f (.int i t) (.int j u)) Q E s) :
    OpR X f (rI0 fun i j => .int (g i j)) := by
  intro pins s σ H x y v u Q I rx ry h
  obtain ⟨i, j, rfl, rfl, q⟩ := h
  obtain ⟨t, rfl⟩ := rx
  obtain ⟨t', rfl⟩ := ry
  exact rule i j t t' s _ _ ⟨.int (g i j), H, I.tok _, ⟨_, rfl⟩, q⟩
theorem opB0 {f : Value → Value → Sem Value} {g : Int → Int → Bool}
    (rule : ∀ (i j : Int) (t u : Tok) (s : Shared) (Q : Value → Shared → Prop) (E : Value → Shared → Prop), Q (.bool (g i j)) s → wpAny (model X.prog X.w) X.A (f (.int i t) (.int j u)) Q E s) :
    OpR X f (rI0 fun i j => .bl (g i j)) := by
  intro pins s σ H x y v u Q I rx ry h
  obtain ⟨i, j, rfl, rfl, q⟩ := h
  obtain ⟨t, rfl⟩ := rx
  obtain ⟨t', rfl⟩ := ry
  exact rule i j t t' s _ _ ⟨.bl (g i j), H, I, rfl, q⟩
def CPow (i j : Int) : Prop := 0 ≤ j ∧ j ≤ 1000000 ∧ i.natAbs < 2 ^ 64
def CMul (i j : Int) : Prop := (-(2 ^ 64) < i ∧ i < 2 ^ 64) ∨ (-(2 ^ 64) < j ∧ j < 2 ^ 64)
theorem CMul.ok {i j : Int} (h : CMul i j) : IntMulOk i j := by
  rcases h with ⟨h1, h2⟩ | ⟨h1, h2⟩
  · exact .of_left (intBits_le_64 h1 h2)
  · exact .of_right (intBits_le_64 h1 h2)
theorem op_add : OpR X (binaryOp .Add) (rI0 fun i j => .int (i + j)) := opI0 fun _ _ _ _ _ _ _ q => add_int q
theorem op_sub : OpR X (binaryOp .Sub) (rI0 fun i j => .int (i - j)) := opI0 fun _ _ _ _ _ _ _ q => sub_int q
theorem op_mul : OpR X (binaryOp .Mult) (rI CMul fun i j => .int (i * j)) := opI fun _ _ _ _ _ _ _ hc q => mul_int q hc.ok
theorem op_mod : OpR X (binaryOp .Mod) (rI (fun _ j => 0 < j) fun i j => .int (i % j)) := opI fun i j _ _ _ _ _ hc q => by
  have h1 : (0 : Int) < j := hc
  exact mod_int' (by omega) (by rw [Int.fmod_eq_emod_of_nonneg i (by omega)]; exact q)
theorem op_pow : OpR X (binaryOp .Pow) (rI CPow fun i j => .int (i ^ j.toNat)) := opI fun _ _ _ _ _ _ _ hc q => pow_int_small hc.1 hc.2.1 hc.2.2 q
theorem op_shl : OpR X (binaryOp .LShift) (rI CPow fun i j => .int (i * 2 ^ j.toNat)) := opI fun _ _ _ _ _ _ _ hc q => lshift_int_small hc.1 hc.2.1 hc.2.2 q
theorem unI {f : Value → Sem Value} {g : Int → Int}
    (rule : ∀ (i : Int) (t : Tok) (s : Shared) (Q : Value → Shared → Prop) (E : Value → Shared → Prop), Q (.int (g i) s.toks) { s with toks := s.toks + 1 } → wpAny (model X.prog X.w) X.A (f (.int i t)) Q E s) :
    UnR X f (rU fun i => .int (g i)) := by
  intro pins s σ H x v Q I rx h
  obtain ⟨i, rfl, q⟩ := h
  obtain ⟨t, rfl⟩ := rx
  exact rule i t s _ _ ⟨.int (g i), H, I.tok _, ⟨_, rfl⟩, q⟩
theorem un_neg : UnR X (unaryOp .USub) (rU fun i => .int (-i)) := unI fun _ _ _ _ _ q => neg_int q
end
section
variable {X : Cx} {a b c : Expr} {ta tb tc : TE} {pos : Pos}
theorem fin_bl {pins : List (Addr × Obj)} {σ : St} {H : Hp} {s : Shared} {Q : VK} {k k' : Bool} (I : Inv X pins σ H s) (q : Q (.bl k) H) (e : k = k') : EP X pins σ Q (.bool k') s := by
  subst e
  exact ⟨.bl k, H, I, rfl, q⟩
theorem op_lt : OpR X (compareOp .Lt) (rI0 fun i j => .bl (decide (i < j))) := opB0 fun _ _ _ _ _ _ _ q => lt_int q
theorem op_le : OpR X (compareOp .LtE) (rI0 fun i j => .bl (decide (i ≤ j))) := opB0 fun _ _ _ _ _ _ _ q => le_int q
theorem op_gt : OpR X (compareOp .Gt) (rI0 fun i j => .bl (decide (j < i))) := opB0 fun _ _ _ _ _ _ _ q => gt_int q
theorem op_ge : OpR X (compareOp .GtE) (rI0 fun i j => .bl (decide (j ≤ i))) := opB0 fun _ _ _ _ _ _ _ q => ge_int q
theorem op_isN : OpR X (compareOp .Is) (fun x y H Q => y = .non ∧ Q (.bl (decide (x = .non))) H) := by
  intro pins s σ H x y v u Q I rx ry h
  obtain ⟨rfl, q⟩ := h
  cases ry
  refine is_none_gen (fin_bl I q ?_)
  cases x <;> first
    | (cases rx; rfl)
    | (obtain ⟨t, rfl⟩ := rx; rfl)
theorem OpR.or {f : Value → Value → Sem Value} {r r' : R2} (h : OpR X f r) (h' : OpR X f r') : OpR X f (fun x y H Q => r x y H Q ∨ r' x y H Q) := by
  intro pins s σ H x y v u Q I rx ry q
  rcases q with q | q
  · exact h pins s σ H x y v u Q I rx ry q
  · exact h' pins s σ H x y v u Q I rx ry q
theorem nomark (b : Expr) {op : CmpOp} (h : op ≠ .In := by decide) (h2 : op ≠ .NotIn := by decide) : behindInMarks op b = false := by
  have e1 : (op == CmpOp.In) = false := by cases op <;> first | rfl | exact absurd rfl h
  have e2 : (op == CmpOp.NotIn) = false := by cases op <;> first | rfl | exact absurd rfl h2
  cases b <;> simp [behindInMarks, e1, e2]
theorem pe_cmpR {op : CmpOp} {r : R2} (ho : OpR X (compareOp op) r) (ha : PE X a ta) (hb : PE X b tb) (hm : behindInMarks op b = false) : PE X (.Compare a [op] [b] pos) (tOp r ta tb) := by
  intro pins s σ H Q I h
  exact wpAny_Compare1 (binT ha hb I h fun v u s2 x y H2 I2 rx ry q => ho pins s2 σ H2 x y v u Q I2 rx ry q) hm
def tTest (t : TE) : TT := fun σ H Q => t σ H fun x H' => ∃ k, x = .bl k ∧ Q k H'
theorem pt_cmpR {op : CmpOp} {r : R2} (ho : OpR X (compareOp op) r) (ha : PE X a ta) (hb : PE X b tb) (hm : behindInMarks op b = false) : PT X (.Compare a [op] [b] pos) (tTest (tOp r ta tb)) := by
  intro pins s σ H Q I h
  refine wpAny_isTrue_Compare1 (thn (ha pins s σ H _ I h) fun v s1 ⟨x, H1, I1, r1, q1⟩ => thn (hb pins s1 σ H1 _ I1 q1) fun u s2 ⟨y, H2, I2, r2, q2⟩ =>
    thn (ho pins s2 σ H2 x y v u _ I2 r1 r2 q2) fun c s3 ⟨z, H3, I3, r3, k, e, q3⟩ => ?_) hm
  subst e
  cases r3
  exact wpAny_truthy_bool ⟨H3, I3, q3⟩
theorem line63 : (sizeLine : Nat) < 2 ^ 63 := by rw [sizeLine_eq]; decide
theorem op_add_str : OpR X (binaryOp .Add) (fun x y H Q => ∃ i j, x = .str i ∧ y = .str j ∧ i.length + j.length ≤ sizeLine ∧ Q (.str (i ++ j)) H) := by
  intro pins s σ H x y v u Q I rx ry h
  obtain ⟨i, j, rfl, rfl, hz, q⟩ := h
  obtain ⟨t, rfl⟩ := rx
  obtain ⟨t', rfl⟩ := ry
  exact add_str (fun t' tk => ⟨.str (i ++ j), H, I.tok _, ⟨_, rfl⟩, q⟩) hz
theorem vals1 {x : V} {us : List Value} (r : Vals [x] us) : ∃ u, us = [u] ∧ RelV x u := by
  cases r with
  | cons r1 r2 => cases r2; exact ⟨_, rfl, r1⟩
theorem vals2 {x y : V} {us : List Value} (r : Vals [x, y] us) : ∃ u w', us = [u, w'] ∧ RelV x u ∧ RelV y w' := by
  cases r with
  | cons r1 r2 =>
    cases r2 with
    | cons r3 r4 => cases r4; exact ⟨_, _, rfl, r1, r3⟩
theorem call_abs : CallR X (.builtin "abs") (fun xs H Q => ∃ i, xs = [.int i] ∧ Q (.int (if i < 0 then -i else i)) H) := by
  intro pins s σ H xs us Q I r h
  obtain ⟨i, rfl, q⟩ := h
  obtain ⟨u, rfl, t, rfl⟩ := vals1 r
  exact call_abs_int fun u tk => ⟨.int (if i < 0 then -i else i), H, I.tok _, ⟨_, rfl⟩, q⟩
theorem call_max2 (hc : X.calm = true) : CallR X (.builtin "max") (fun xs H Q => ∃ i j, xs = [.int i, .int j] ∧ Q (.int (if j > i then j else i)) H) := by
  intro pins s σ H xs us Q I r h
  obtain ⟨i, j, rfl, q⟩ := h
  obtain ⟨u, w', rfl, ⟨t, rfl⟩, ⟨t', rfl⟩⟩ := vals2 r
  refine max_two_ints (I.ok.hd hc) fun h' tk k => ⟨_, H, I.kept k, ?_, q⟩
  by_cases hj : j > i
  · rw [if_pos hj, if_pos hj]; exact ⟨_, rfl⟩
  · rw [if_neg hj, if_neg hj]; exact ⟨_, rfl⟩
theorem call_min2 (hc : X.calm = true) : CallR X (.builtin "min") (fun xs H Q => ∃ i j, xs = [.int i, .int j] ∧ Q (.int (if j < i then j else i)) H) := by
  intro pins s σ H xs us Q I r h
  obtain ⟨i, j, rfl, q⟩ := h
  obtain ⟨u, w', rfl, ⟨t, rfl⟩, ⟨t', rfl⟩⟩ := vals2 r
  refine min_two_ints (I.ok.hd hc) fun h' tk k => ⟨_, H, I.kept k, ?_, q⟩
  by_cases hj : j < i
  · rw [if_pos hj, if_pos hj]; exact ⟨_, rfl⟩
  · rw [if_neg hj, if_neg hj]; exact ⟨_, rfl⟩
theorem call_int1 : CallR X (.type "int") (fun xs H Q => (∃ i, xs = [.int i] ∧ Q (.int i) H) ∨ ∃ k, xs = [.bl k] ∧ Q (.int (if k then 1 else 0)) H) := by
  intro pins s σ H xs us Q I r h
  rcases h with ⟨i, rfl, q⟩ | ⟨k, rfl, q⟩
  · obtain ⟨u, rfl, t, rfl⟩ := vals1 r
    exact call_int_int ⟨.int i, H, I, ⟨_, rfl⟩, q⟩
  · obtain ⟨u, rfl, r1⟩ := vals1 r
    cases r1
    exact call_int_bool ⟨.int (if k then 1 else 0), H, I.tok _, ⟨_, rfl⟩, q⟩
def LenV (K : PySem.W.Frag) (x : V) (H : Hp) (n : Nat) : Prop :=
  match x with
  | .str y => y.length ≤ sizeLine ∧ n = y.length
  | .byt y => y.size ≤ sizeLine ∧ n = y.size
  | .ref p => (∃ xs, SqL K H p xs ∧ n = xs.length) ∨ ∃ xs, SqT K H p xs ∧ n = xs.length
  | _ => False
theorem call_len : CallR X (.builtin "len") (fun xs H Q => ∃ x n, xs = [x] ∧ LenV X.K x H n ∧ Q (.int n) H) := by
  intro pins s σ H xs us Q I r h
  obtain ⟨x, n, rfl, e, q⟩ := h
  obtain ⟨u, rfl, rx⟩ := vals1 r
  have hl := line63
  have hs : sizeLine = 16777216 := sizeLine_eq
  cases x with
  | str y =>
    obtain ⟨t, rfl⟩ := rx
    obtain ⟨hy, e'⟩ : y.length ≤ sizeLine ∧ n = y.length := e
    subst e'
    exact len_str (by omega) ⟨.int _, H, I.tok _, ⟨_, rfl⟩, q⟩
  | byt y =>
    obtain ⟨t, rfl⟩ := rx
    obtain ⟨hy, e'⟩ : y.size ≤ sizeLine ∧ n = y.size := e
    subst e'
    exact PySem.W.len_bytes (by omega) ⟨.int _, H, I.tok _, ⟨_, rfl⟩, q⟩
  | ref p =>
    cases rx
    have e' : (∃ xs, SqL X.K H p xs ∧ n = xs.length) ∨ ∃ xs, SqT X.K H p xs ∧ n = xs.length := e
    rcases e' with ⟨xs, hx, e'⟩ | ⟨xs, hx, e'⟩
    · subst e'
      obtain ⟨its, r', pl, hz⟩ := I.list hx
      have hlen := r'.length
      exact Calls.call_len_list pl.isList (by simp only [List.size_toArray]; omega) ⟨.int xs.length, H, I.tok _, ⟨_, by simp only [List.size_toArray]; rw [hlen]⟩, q⟩
    · subst e'
      obtain ⟨its, r', pl, hz⟩ := I.tuple hx
      have hlen := r'.length
      exact len_tuple pl (by simp only [List.size_toArray]; omega) ⟨.int xs.length, H, I.tok _, ⟨_, by simp only [List.size_toArray]; rw [hlen]⟩, q⟩
  | _ => exact (show False from e).elim
end
end L2
namespace L2
open PySem PySem.Spec PyProof.Rows
structure ObjM (h : Heap) (x dx C : Addr) (mA : Str → Option Value) : Prop where
  obj : h.get? x = some (PySem.W.instObj C dx)
  ns : h.Ns1 dx mA
  ne : dx ≠ x
theorem lookIn_ns {h : Heap} {dx : Addr} {mA : Str → Option Value} (n : h.Ns1 dx mA) : ∃ od, h.get? dx = some od ∧ ∀ name, PySem.W.lookIn name od = some (mA name) := by
  obtain ⟨o, es, ep, ho, hd, hk, _, hm⟩ := n
  refine ⟨o, ho, fun name => ?_⟩
  have e := hm name
  unfold nsFind findBy at e
  rw [← Array.find?_toList] at e
  unfold PySem.W.lookIn
  rw [hd]
  dsimp only
  split
  · rename_i y q
    rw [q] at e
    exact congrArg some e
  · rename_i q
    rw [q] at e
    have a : es.toList.any (·.refKey) = false := by
      rw [List.any_eq_false]
      intro y hy
      obtain ⟨z, t, hkey⟩ := hk y (Array.mem_toList_iff.mp hy)
      simp [DictEntry.refKey, hkey]
    have a' : ¬ es.toList.any (·.refKey) = true := by rw [a]; exact Bool.false_ne_true
    rw [if_neg a']
    exact congrArg some e
theorem ObjM.look {h : Heap} {x dx C : Addr} {mA : Str → Option Value} (I : ObjM h x dx C mA) : ∃ od, PySem.W.InstAt h x (PySem.W.instObj C dx) C (some od) ∧ ∀ name, PySem.W.lookIn name od = some (mA name) :=
  let ⟨od, ho, hl⟩ := lookIn_ns I.ns
  ⟨od, ⟨I.obj, rfl, rfl, ho⟩, hl⟩
section
variable {prog : Program} {w : World} {A : Around} {E : Value → Shared → Prop} {s : Shared} {K : PySem.W.Frag} {x dx C f : Addr} {mA : Str → Option Value} {name : Str} {v : Value}
end
section
variable {P : Program} {w : World} {H H' : Hp} {h h' : Heap} {a C dx : Addr} {fs fs' : List (Str × V)}
end
structure Cls (K : PySem.W.Frag) (C : Addr) : Prop where
  pg : PySem.W.plainGet K C Str.empty = true
  hd : PySem.W.hasDictIn K C = true
  po : PySem.W.plainOver K C = true
  sa : PySem.W.findIn K (.ref C) "__setattr__" = some (some (.builtin "object.__setattr__"))
theorem Cls.get {K : PySem.W.Frag} {C : Addr} (c : Cls K C) (f : Str) : PySem.W.plainGet K C f = true := c.pg
structure Con (K : PySem.W.Frag) (C : Addr) (f : Str) (v : V) (u : Value) : Prop where
  at_ : PySem.W.findIn K (.ref C) f = some (some u)
  rel : RelV v u
  get : PySem.W.specialIn K u "__get__" = some none
  cp : PySem.W.copiedNames.contains f = false
structure Meth (K : PySem.W.Frag) (C : Addr) (m : Str) (f : Addr) : Prop where
  at_ : PySem.W.findIn K (.ref C) m = some (some (.ref f))
  fn : PySem.W.isFn K (.ref f) = true
  kp : PySem.W.keepIn K (.ref f) = true
section
variable {X : Cx} {pins : List (Addr × Obj)} {σ : St} {H : Hp} {s : Shared} {a C dx : Addr} {fs : List (Str × V)} {f : Str} {v : V} {A : Around} {E : Value → Shared → Prop}
end
section
variable {X : Cx} {o e value : Expr} {f : Str} {pos pos' tpos : Pos} {ta tv : TE}
end
section
variable {X : Cx} {pins : List (Addr × Obj)} {σ : St} {H : Hp} {s : Shared} {A : Around} {E : Value → Shared → Prop} {Q : Value → Shared → Prop} {c : Value} {b : Bool}
inductive TyOf (K : PySem.W.Frag) (H : Hp) : V → Value → Prop where
  | non : TyOf K H .non (.type "NoneType")
  | bl (x : Bool) : TyOf K H (.bl x) (.type "bool")
  | int (i : Int) : TyOf K H (.int i) (.type "int")
  | str (x : Str) : TyOf K H (.str x) (.type "str")
  | flt (x : UInt64) : TyOf K H (.flt x) (.type "float")
  | lst {a : Addr} {xs : List V} (e : H a = some (.lst xs)) : TyOf K H (.ref a) (.type "list")
  | frz {a : Addr} {o : Obj} {xs : List V} (e : H a = some (.frz o (.lst xs))) : TyOf K H (.ref a) (.type "list")
  | tup {a : Addr} {xs : List V} (e : H a = some (.tup xs)) : TyOf K H (.ref a) (.type "tuple")
  | dK {a : Addr} {kvs : List (Key × V)} (e : H a = some (.dK kvs)) : TyOf K H (.ref a) (.type "dict")
  | dT {a : Addr} {kvs : List (List Key × V)} (e : H a = some (.dT kvs)) : TyOf K H (.ref a) (.type "dict")
  | ins {a C dx : Addr} {fs : List (Str × V)} (e : H a = some (.ins C dx fs)) (cl : Cls K C) (ha : PySem.W.findIn K (.ref C) "__class__" = some (some (.builtin "object.__class__")))
      (hn : PySem.W.specialIn K (.builtin "object.__class__") "__get__" = some (some (.builtin "getset_descriptor.__get__"))) (htk : PySem.W.takesIn K (.builtin "object.__class__") = some true)
      (hm : PySem.W.mroIn K C (.type "object") = some true) : TyOf K H (.ref a) (.ref C)
end
end L2
namespace L2
open PySem PySem.Spec PyProof.Rows
structure Room (k : Nat) (A : Around) : Prop where
  hd : A.handled = none
  dp : A.depth + 3 * k + 5 < recursionLimit
  un : A.units + 16 * k + 200 < cLine
theorem Room.mono {j k : Nat} {A : Around} (r : Room k A) (h : j ≤ k) : Room j A := ⟨r.hd, by have := r.dp; omega, by have := r.un; omega⟩
theorem Room.deeper {k : Nat} {A : Around} (r : Room (k + 1) A) (env : Env) : Room k (A.deeper env) :=
  ⟨r.hd, by have := r.dp; show A.depth + 1 + 3 * k + 5 < _; omega, by have := r.un; show A.units + 3 + 16 * k + 200 < _; omega⟩
theorem Room.in1 {k : Nat} {A : Around} (r : Room (k + 1) A) : Room k A.in1 :=
  ⟨r.hd, by have := r.dp; show A.depth + 3 * k + 5 < _; omega, by have := r.un; show A.units + 1 + 16 * k + 200 < _; omega⟩
theorem make_depth {A : Around} {C : Addr} {us : List Value} {kw : List (Str × Value)} : (A.under (.builtin "type.__call__" ⟨.ref C :: us, kw⟩)).depth = A.depth + 1 := by
  first | rfl | simp [Around.under, Code.weight, Code.isCreation, Code.isGuard, Code.isCaller, Code.frames, Code.isFrame, guardIds]
theorem make_units {A : Around} {C : Addr} {us : List Value} {kw : List (Str × Value)} : (A.under (.builtin "type.__call__" ⟨.ref C :: us, kw⟩)).units = A.units + 1 := by
  first | rfl | simp [Around.under, Code.cUnits, Code.frames, Code.isFrame]
theorem Room.make {k : Nat} {A : Around} (r : Room (k + 1) A) (C : Addr) (us : List Value) (kw : List (Str × Value)) : Room k (A.under (.builtin "type.__call__" ⟨.ref C :: us, kw⟩)) :=
  ⟨r.hd, by have := r.dp; rw [make_depth]; omega, by have := r.un; rw [make_units]; omega⟩
theorem Room.depth {k : Nat} {A : Around} (r : Room k A) : A.depth < recursionLimit := by have := r.dp; omega
theorem Room.units {k : Nat} {A : Around} (r : Room k A) : A.units + 64 < cLine := by have := r.un; omega
def tNil : TA := fun _ H Q => Q [] H
def tCons (ta : TE) (tr : TA) : TA := fun σ H Q => ta σ H fun x H1 => tr σ H1 fun xs H2 => Q (x :: xs) H2
section
variable {X : Cx} {e : Expr} {es : List Expr} {te : TE} {t : TA} {pos : Pos}
theorem pa_nil : PA X [] tNil := fun _ _ _ _ H Q I h => Calls.spliced_nil ⟨[], H, I, .nil, h⟩
theorem pa_cons (ha : PE X e te) (hr : PA X es t) (hs : starEach (e :: es) X.env = (false, eval e X.env) :: starEach es X.env := by rfl) : PA X (e :: es) (tCons te t) := by
  intro pos pins s σ H Q I h
  rw [hs]
  show wpAny _ _ (spliced ((false, eval e X.env) :: backTo pos (starEach es X.env))) _ _ s
  refine Calls.spliced_cons (thn (ha pins s σ H _ I h) fun u s1 ⟨x, H1, I1, r1, q1⟩ => ?_)
  exact thn (hr pos pins s1 σ H1 _ I1 q1) fun us s2 ⟨xs, H2, I2, r2, q2⟩ => ⟨x :: xs, H2, I2, .cons r1 r2, q2⟩
def tTup (t : TA) : TE := fun σ H Q => t σ H fun xs H1 => xs.length ≤ sizeLine ∧ ∀ p, H1 p = none → Q (.ref p) (upd H1 p (.tup xs))
def tLst (t : TA) : TE := fun σ H Q => t σ H fun xs H1 => xs.length ≤ sizeLine ∧ ∀ p, H1 p = none → Q (.ref p) (upd H1 p (.lst xs))
theorem pe_tup {x1} (h : PA X es t) : PE X (.Tuple es x1 pos) (tTup t) := by
  intro pins s σ H Q I hq
  refine wpAny_Tuple_spliced (thn (h pos pins s σ H _ I hq) fun us s1 ⟨xs, H1, I1, r, z, q⟩ => ⟨by rw [← r.length]; exact z, ?_⟩)
  have hf : H1 s1.heap.objs.size = none := I1.hok.fresh (Nat.le_refl _)
  refine ⟨.ref s1.heap.objs.size, upd H1 s1.heap.objs.size (.tup xs), I1.laid (t' := s1.toks) (fun b u e => Heap.get?_push_of_some _ e) (Nat.le_refl _) ?_, rfl, q _ hf⟩
  exact ⟨z, us, r, ⟨_, Heap.get?_push_size _ rfl, rfl, _, rfl⟩⟩
theorem pe_lst (h : PA X es t) : PE X (.List es pos) (tLst t) := by
  intro pins s σ H Q I hq
  refine wpAny_List_spliced (thn (h pos pins s σ H _ I hq) fun us s1 ⟨xs, H1, I1, r, z, q⟩ => ⟨by rw [← r.length]; exact z, ?_⟩)
  have hf : H1 s1.heap.objs.size = none := I1.hok.fresh (Nat.le_refl _)
  refine ⟨.ref s1.heap.objs.size, upd H1 s1.heap.objs.size (.lst xs), I1.laid (t' := s1.toks) (fun b u e => Heap.get?_push_of_some _ e) (Nat.le_refl _) ?_, rfl, q _ hf⟩
  exact ⟨z, us, 0, r, Heap.get?_push_size _ rfl⟩
end
abbrev Sp := List V → Hp → VK → XK → Prop
abbrev CXT := List Env → Hp → Shared → XK → Value → Shared → Prop
structure Env0 (P : Program) (w : World) (K : PySem.W.Frag) (mg : Str → Option Value) (base : Heap) (A : Around) (outer : List Env) (s : Shared) (H : Hp) : Prop where
  frames : A.frames = some outer
  mod : Mod K mg base
  bs : ∀ b o, base.get? b = some o → s.heap.get? b = some o ∧ H b = none
  bsz : base.objs.size ≤ s.heap.objs.size
  funs : s.heap.FunFrames base outer
  frf : ∀ b ∈ frs outer, H b = none
  hok : HOk P w H s.heap
  bare : AllBare s.gens
def CE (outer : List Env) (P : Program) (w : World) (H : Hp) (s : Shared) (Q : VK) (u : Value) (s' : Shared) : Prop :=
  ∃ v H', s'.os = s.os ∧ AllBare s'.gens ∧ Un (frs outer) [] H H' s.heap s'.heap ∧ HOk P w H' s'.heap ∧ RelV v u ∧ Q v H'
def CR (CX : CXT) (outer : List Env) (P : Program) (w : World) (H : Hp) (s : Shared) (Q : VK) (E : XK) (r : Result) (s' : Shared) : Prop :=
  match r with
  | .ok (.ret u) => CE outer P w H s Q u s'
  | .ok _ => False
  | .error e => CX outer H s E e s'
structure FnOk (P : Program) (w : World) (K : PySem.W.Frag) (mg : Str → Option Value) (base : Heap) (CX : CXT) (k : Nat) (f : Addr) (fd : FuncData) (ps : List Str) (sp : Sp) : Prop where
  len : ∀ vs H Q E, sp vs H Q E → vs.length = ps.length
  run : ∀ (A : Around) (outer : List Env) (s : Shared) (H : Hp) (args : Args) (us : List Value) (vs : List V) (Q : VK) (E : XK), Room k A → Env0 P w K mg base A outer s H → BindsTo s fd args (ps.zip us) → Vals vs us → sp vs H Q E →
    codeAny (model P w) A (.call (.ref f) args) (CR CX outer P w H s Q E) s
theorem FnOk.mono {P : Program} {w : World} {K : PySem.W.Frag} {mg : Str → Option Value} {base : Heap} {CX : CXT} {j k : Nat} {f : Addr} {fd : FuncData} {ps : List Str} {sp : Sp} (F : FnOk P w K mg base CX j f fd ps sp) (h : j ≤ k) :
    FnOk P w K mg base CX k f fd ps sp := ⟨F.len, fun A outer s H args us vs Q E hr => F.run A outer s H args us vs Q E (hr.mono h)⟩
theorem FnOk.imp {P : Program} {w : World} {K : PySem.W.Frag} {mg : Str → Option Value} {base : Heap} {CX : CXT} {k : Nat} {f : Addr} {fd : FuncData} {ps : List Str} {sp sp' : Sp} (F : FnOk P w K mg base CX k f fd ps sp)
    (h : ∀ vs H Q E, sp' vs H Q E → sp vs H Q E) : FnOk P w K mg base CX k f fd ps sp' :=
  ⟨fun vs H Q E q => F.len vs H Q E (h _ _ _ _ q), fun A outer s H args us vs Q E hr he hb hv hs => F.run A outer s H args us vs Q E hr he hb hv (h _ _ _ _ hs)⟩
theorem Env0.make {P : Program} {w : World} {K : PySem.W.Frag} {mg : Str → Option Value} {base : Heap} {A : Around} {outer : List Env} {s : Shared} {H : Hp} (e : Env0 P w K mg base A outer s H) (C : Addr) (us : List Value) (kw : List (Str × Value)) :
    Env0 P w K mg base (A.under (.builtin "type.__call__" ⟨.ref C :: us, kw⟩)) outer s H := ⟨by first | exact e.frames | (simpa [Around.under, Code.envs, Code.isFrame, pushEnvs] using e.frames), e.mod, e.bs, e.bsz, e.funs, e.frf, e.hok, e.bare⟩
theorem Env0.in1 {P : Program} {w : World} {K : PySem.W.Frag} {mg : Str → Option Value} {base : Heap} {A : Around} {outer : List Env} {s : Shared} {H : Hp} (e : Env0 P w K mg base A outer s H) :
    Env0 P w K mg base A.in1 outer s H := ⟨e.frames, e.mod, e.bs, e.bsz, e.funs, e.frf, e.hok, e.bare⟩
section
variable {X : Cx} {pins : List (Addr × Obj)} {σ : St} {H : Hp} {s s' : Shared}
theorem Inv.env0 (I : Inv X pins σ H s) : Env0 X.prog X.w X.K X.mg X.base X.A X.stack s H :=
  ⟨I.ok.frames, I.ok.mod, I.bs, Nat.le_trans I.ok.bsz I.sz, I.stack, I.stkFree, I.hok, I.bare⟩
theorem Inv.after {Q : VK} {u : Value} (I : Inv X pins σ H s) (h : CE X.stack X.prog X.w H s Q u s') : EP X pins σ Q u s' := by
  obtain ⟨v, H', os, bare, un, hok, r, q⟩ := h
  obtain ⟨hh, g, d, t, os'⟩ := s'
  obtain rfl : os' = s.os := os
  exact ⟨v, H', I.call (h' := hh) (g' := g) (d' := d) (t' := t) (ch := []) un hok bare (fun b z => absurd z (by simp)), r, q⟩
end
def tCall (sp : Sp) (dvs : List V) (E : XK) (t : TA) : TE := fun σ H Q => t σ H fun vs H1 => sp (vs ++ dvs) H1 Q E
def Binds (K : PySem.W.Frag) (fd : FuncData) (ps : List Str) (ds : List Value) : Prop :=
  ∀ (s : Shared) (us : List Value), K.In s.heap → (us ++ ds).length = ps.length → BindsTo s fd ⟨us, []⟩ (ps.zip (us ++ ds))
theorem Binds.all {K : PySem.W.Frag} {fd : FuncData} {ps : List Str} (h : ∀ us : List Value, us.length = ps.length → bindArgs fd ⟨us, []⟩ = pure (ps.zip us)) : Binds K fd ps [] := fun s us _ hl => by
  rw [List.append_nil] at hl ⊢
  exact .of_eq (h us hl)
def Passes (CX : CXT) (X : Cx) (E : XK) : Prop := ∀ (pins : List (Addr × Obj)) (σ : St) (H : Hp) (s : Shared) (e : Value) (s' : Shared), Inv X pins σ H s → CX X.stack H s E e s' → X.xe e s'
section
variable {X : Cx} {CX : CXT} {k : Nat} {f C : Addr} {fd : FuncData} {ps : List Str} {sp : Sp} {dvs : List V} {ds : List Value} {E : XK} {x m : Str} {p pos apos : Pos} {e o : Expr} {es : List Expr} {ta : TE} {t : TA}
theorem run_fn {pins : List (Addr × Obj)} {σ : St} {H : Hp} {s : Shared} {Q : VK} {us : List Value} {vs : List V} (F : FnOk X.prog X.w X.K X.mg X.base CX k f fd ps sp) (hr : Room k X.A) (hb : Binds X.K fd ps ds) (hd : Vals dvs ds) (hx : Passes CX X E)
    (I : Inv X pins σ H s) (r : Vals vs us) (h : sp (vs ++ dvs) H Q E) : wpAny (model X.prog X.w) X.A (call (.ref f) us) (EP X pins σ Q) X.xe s := by
  have r2 : Vals (vs ++ dvs) (us ++ ds) := r.append hd
  have hl : (us ++ ds).length = ps.length := by rw [← r2.length]; exact F.len _ _ _ _ h
  refine wpAny_call (codeAny_mono (F.run X.A X.stack s H ⟨us, []⟩ (us ++ ds) (vs ++ dvs) Q E hr I.env0 (hb s us I.kIn hl) r2 h) fun r s' hq => ?_)
  cases r with
  | error e => exact hx pins σ H s e s' I hq
  | ok fl =>
    cases fl with
    | ret u => exact I.after hq
    | next => exact False.elim hq
    | brk => exact False.elim hq
    | cont => exact False.elim hq
theorem pe_call (F : FnOk X.prog X.w X.K X.mg X.base CX k f fd ps sp) (hr : Room k X.A) (hg : Gl X x) (hm : X.mg x = some (.ref f)) (hk : PySem.W.keepIn X.K (.ref f) = true) (hb : Binds X.K fd ps ds) (hd : Vals dvs ds) (hx : Passes CX X E)
    (ha : PA X (e :: es) t) (hdb : (x == ("__debug__" : Str)) = false := by decide) (he : starEach (e :: es) X.env = (false, eval e X.env) :: starEach es X.env := by rfl) (hpl : (backTo pos (starEach es X.env)).any (·.1) = false := by rfl) :
    PE X (.Call (.Name x p) (e :: es) [] pos) (tCall sp dvs E t) := by
  intro pins s σ H Q I h
  refine wpAny_Call_Name_kw (ld_glob I hg hm ?_ hdb)
  refine PySem.W.callWith_K (h₀ := X.base) I.ok.mod.kin hk (thn (ha pos pins s σ H _ I h) fun us s1 ⟨vs, H1, I1, r, q⟩ => ⟨I1.kIn, ?_⟩) he hpl
  exact run_fn F hr hb hd hx I1 r q
structure Mk (K : PySem.W.Frag) (C f : Addr) : Prop where
  makes : PySem.W.makesIn K C = true
  init : PySem.W.findIn K (.ref C) "__init__" = some (some (.ref f))
  fn : PySem.W.isFn K (.ref f) = true
  kp : PySem.W.keepIn K (.ref C) = true
end
section
variable {X : Cx} {CX : CXT} {k : Nat} {f C : Addr} {fd : FuncData} {ps ks : List Str} {sp : Sp} {E : XK} {x m : Str} {p pos apos kpos : Pos} {e o : Expr} {es : List Expr} {kws : List Keyword} {te ta : TE} {t tk : TA} {nm : Option Str}
structure KBinds (K : PySem.W.Frag) (fd : FuncData) (ps ks : List Str) (g : List Value → List Value → List Value) (gV : List V → List V → List V) : Prop where
  to : ∀ (s : Shared) (us ws : List Value), K.In s.heap → (g us ws).length = ps.length → BindsTo s fd ⟨us, ks.zip ws⟩ (ps.zip (g us ws))
  rel : ∀ {vs : List V} {us : List Value} {zs : List V} {ws : List Value}, Vals vs us → Vals zs ws → Vals (gV vs zs) (g us ws)
variable {g : List Value → List Value → List Value} {gV : List V → List V → List V}
end
structure FnScope (N P : List Str) (sc : Scope) : Prop where
  kind : sc.kind = .function
  co : sc.isCoroutine = false
  gen : sc.isGenerator = false
  nd : N.Nodup
  pre : N.take P.length = P
  par : ∀ x ∈ P, sc.names.lookup x = some .local ∨ sc.names.lookup x = some .cell
  nofree : ∀ y ∈ sc.names, y.2 ≠ .free
theorem bindL_out {kindOf : Str → Option NameKind} {x : Str} : ∀ {binds : List (Str × Value)} {m : Str → Option Value}, (∀ v, (x, v) ∉ binds) → bindL kindOf binds m x = m x
  | [], _, _ => rfl
  | (n, v) :: r, m, h => by
    unfold bindL
    rw [bindL_out fun w hw => h w (List.mem_cons_of_mem _ hw)]
    split
    · have : x ≠ n := by rintro rfl; exact h v List.mem_cons_self
      simp [this]
    · rfl
theorem bindC_out {kindOf : Str → Option NameKind} {x : Str} : ∀ {binds : List (Str × Value)} {m : Str → Option Value}, (∀ v, (x, v) ∉ binds) → bindC kindOf binds m x = m x
  | [], _, _ => rfl
  | (n, v) :: r, m, h => by
    unfold bindC
    rw [bindC_out fun w hw => h w (List.mem_cons_of_mem _ hw)]
    split
    · rfl
    · have : x ≠ n := by rintro rfl; exact h v List.mem_cons_self
      simp [this]
theorem bindL_get {kindOf : Str → Option NameKind} {x : Str} {v : Value} : ∀ {P : List Str} {vs : List Value} {i : Nat} {m : Str → Option Value}, P.Nodup → P[i]? = some x → vs[i]? = some v → kindOf x = some .local →
    bindL kindOf (P.zip vs) m x = some v
  | [], _, _, _, _, h, _, _ => by simp at h
  | _ :: _, [], _, _, _, _, h, _ => by simp at h
  | p :: P, w :: vs, 0, m, nd, h1, h2, hk => by
    simp at h1 h2; subst h1; subst h2
    show bindL kindOf ((p, w) :: P.zip vs) m p = _
    unfold bindL
    rw [bindL_out fun v hv => (List.nodup_cons.mp nd).1 (List.of_mem_zip hv).1, if_pos hk]
    simp
  | p :: P, w :: vs, i + 1, m, nd, h1, h2, hk => by
    show bindL kindOf ((p, w) :: P.zip vs) m x = _
    unfold bindL
    exact bindL_get (i := i) (List.nodup_cons.mp nd).2 (by simpa using h1) (by simpa using h2) hk
theorem bindC_get {kindOf : Str → Option NameKind} {x : Str} {v : Value} : ∀ {P : List Str} {vs : List Value} {i : Nat} {m : Str → Option Value}, P.Nodup → P[i]? = some x → vs[i]? = some v → kindOf x ≠ some .local →
    bindC kindOf (P.zip vs) m x = some v
  | [], _, _, _, _, h, _, _ => by simp at h
  | _ :: _, [], _, _, _, _, h, _ => by simp at h
  | p :: P, w :: vs, 0, m, nd, h1, h2, hk => by
    simp at h1 h2; subst h1; subst h2
    show bindC kindOf ((p, w) :: P.zip vs) m p = _
    unfold bindC
    rw [bindC_out fun v hv => (List.nodup_cons.mp nd).1 (List.of_mem_zip hv).1, if_neg hk]
    simp
  | p :: P, w :: vs, i + 1, m, nd, h1, h2, hk => by
    show bindC kindOf ((p, w) :: P.zip vs) m x = _
    unfold bindC
    exact bindC_get (i := i) (List.nodup_cons.mp nd).2 (by simpa using h1) (by simpa using h2) hk
def start (N : List Str) (vs : List V) : St := vs.map some ++ List.replicate (N.length - vs.length) none
def cxOf (CX : CXT) (P : Program) (w : World) (K : PySem.W.Frag) (mg : Str → Option Value) (base : Heap) (N : List Str) (qual : Str) (scope : Scope) (f : Addr) (cd : Value) (A : Around) (outer : List Env) (s : Shared) (H : Hp) (E : XK) : Cx where
  prog := P
  w := w
  K := K
  mg := mg
  base := base
  A := A.deeper (envOfC qual scope s.heap.objs.size f cd)
  N := N
  s_0 := s
  H_0 := H
  env := envOfC qual scope s.heap.objs.size f cd
  outer := outer
  stack := envOfC qual scope s.heap.objs.size f cd :: outer
  ex := []
  calm := true
  fn := fun _ => true
  pn := []
  xe := fun e s' => wpAny (model P w) (A.deeper (envOfC qual scope s.heap.objs.size f cd)) (leaving (envOfC qual scope s.heap.objs.size f cd) e) (fun _ s'' => CX outer H s E e s'') (fun e' s'' => CX outer H s E e' s'') s'
theorem cell_has {sc : Scope} {n : Nat} {x : Str} (h : sc.names.lookup x = some .cell) : ∃ c, (cellsFrom n sc.names []).lookup x = some c := by
  have q := PySem.W.cellsFrom_some sc.names n [] (.inl h)
  exact Option.isSome_iff_exists.mp q
theorem inv_start {CX : CXT} {P : Program} {w : World} {K : PySem.W.Frag} {mg : Str → Option Value} {base : Heap} {N ps : List Str} {qual : Str} {scope : Scope} {f : Addr} {cd : Value} {A : Around} {outer : List Env} {s s1 : Shared} {H : Hp} {E : XK} {us : List Value} {vs : List V}
    (S : FnScope N ps scope) (hd : A.handled = none) (e0 : Env0 P w K mg base A outer s H) (hl : vs.length = ps.length) (r : Vals vs us)
    (x : InCallC s s.heap.objs.size (bindL (envOfC qual scope s.heap.objs.size f cd).kindOf (ps.zip us) fun _ => none) (cellsFrom (s.heap.objs.size + 1) scope.names []) (bindC (envOfC qual scope s.heap.objs.size f cd).kindOf (ps.zip us) fun _ => none) s1) :
    Inv (cxOf CX P w K mg base N qual scope f cd A outer s H E) [] (start N vs) H s1 := by
  have hpl : ps.length ≤ N.length := by have := congrArg List.length S.pre; rw [List.length_take] at this; omega
  obtain ⟨h1, tk, rfl, hk⟩ := x.done
  have noA : ∀ b : Addr, b ∉ (cxOf CX P w K mg base N qual scope f cd A outer s H E).ex := fun b z => absurd (show b ∈ ([] : List Addr) from z) (by simp)
  refine ⟨⟨e0.mod, S.kind, rfl, rfl, Nat.le_refl _, fun y z c h1 h2 => ?_, fun y hy => ?_, fun y c _ h => ?_, fun _ => hd, Around.frames_deeper e0.frames, .inr ⟨rfl, rfl⟩, fun b z => absurd z (noA b), e0.bs, e0.bsz, fun b _ _ => noA b, fun b z => absurd z (noA b), e0.funs, e0.frf⟩,
    rfl, e0.bare, Un.kept hk, ⟨_, x.toInCall.ns, fun i y v h1 h2 h3 => ?_⟩, fun y c h => ⟨_, x.cell y c h⟩, e0.hok.fresh (Nat.le_refl _), fun y c h => ?_, fun p hp => absurd (show p ∈ ([] : List (Addr × Obj)) from hp) (by simp), e0.hok.kept hk, ?_⟩
  · exact name_of_addr x.apart (PySem.mem_of_lookup h1) (PySem.mem_of_lookup h2)
  · have hy : scope.names.lookup y = some .cell ∨ scope.names.lookup y = some .free := hy
    rcases hy with hy | hy
    · exact cell_has hy
    · exact absurd rfl (S.nofree _ (PySem.mem_of_lookup hy))
  · exact Nat.le_of_lt (x.above y c (PySem.mem_of_lookup h))
  · have hi : i < vs.length := by
      unfold start at h2
      by_cases hi : i < vs.length
      · exact hi
      · rw [List.getElem?_append_right (by simpa using hi)] at h2
        rw [List.getElem?_replicate] at h2
        split at h2 <;> cases h2
    have ha : vs[i]? = some v := by
      unfold start at h2
      rw [List.getElem?_append_left (by simpa using hi), List.getElem?_map] at h2
      cases e : vs[i]? with
      | none => rw [e] at h2; cases h2
      | some a => rw [e] at h2; cases h2; rfl
    obtain ⟨u, hu, rv⟩ := r.get ha
    have hp : ps[i]? = some y := by
      rw [← S.pre, List.getElem?_take_of_lt (by omega)]; exact h1
    have ndP : ps.Nodup := by rw [← S.pre]; exact S.nd.sublist (List.take_sublist _ _)
    refine ⟨u, rv, ?_⟩
    rcases S.par y (List.mem_of_getElem? hp) with k | k
    · exact .inl ⟨k, bindL_get ndP hp hu k⟩
    · obtain ⟨c, e⟩ := cell_has (n := s.heap.objs.size + 1) k
      refine .inr ⟨.inl k, c, e, ?_⟩
      have q := x.cell y c e
      rw [bindC_get ndP hp hu (by show scope.names.lookup y ≠ _; rw [k]; decide)] at q
      exact q
  · exact e0.hok.fresh (Nat.le_of_lt (x.above y c (PySem.mem_of_lookup h)))
  · unfold start
    show _ = N.length
    rw [List.length_append, List.length_map, List.length_replicate]
    omega
theorem fn_of {CX : CXT} {P : Program} {w : World} {K : PySem.W.Frag} {mg : Str → Option Value} {base : Heap} {k : Nat} {f : Addr} {name qual : Str} {params : Arguments} {body : List Stmt} {scope : Scope} {dV kV doc pm cdv ct oc : Value} {an od : Option Addr}
    {osl : Array (Option Value)} {N ps : List Str} {sp : Sp} (lk : K.lookup f = some ⟨oc, od, .func (PySem.W.fnOf name qual params body scope dV kV doc pm an cdv ct), osl⟩) (hcd : PySem.W.codeIn K cdv qual = true) (S : FnScope N ps scope)
    (len : ∀ vs H Q E, sp vs H Q E → vs.length = ps.length)
    (hbody : ∀ (A : Around) (outer : List Env) (s : Shared) (H : Hp) (vs : List V) (Q : VK) (E : XK), Room k (A.deeper (envOfC qual scope s.heap.objs.size f cdv)) → sp vs H Q E →
      ∃ t, PSs (cxOf CX P w K mg base N qual scope f cdv A outer s H E) body t ∧ t { nx := fun _ H' => Q .non H', rt := Q } (start N vs) H) :
    FnOk P w K mg base CX (k + 1) f (PySem.W.fnOf name qual params body scope dV kV doc pm an cdv ct) ps sp := by
  refine ⟨len, fun A outer s H args us vs Q E hr e0 hb r hsp => ?_⟩
  have hl := len _ _ _ _ hsp
  have KX : K.In s.heap := e0.mod.kin.keeps fun b o e => (e0.bs b o e).1
  have lim : s.heap.NoLimit := e0.mod.nolimit.keeps fun b o e => (e0.bs b o e).1
  have hkind : ∀ y ∈ ps.zip us, scope.names.lookup y.1 = some .local ∨ (scope.names.lookup y.1 = some .cell ∧ ((cellsFrom (s.heap.objs.size + 1) scope.names []).lookup y.1).isSome = true) := fun ⟨n, v⟩ hy => by
    rcases S.par n (List.of_mem_zip hy).1 with q | q
    · exact .inl q
    · exact .inr ⟨q, PySem.W.cellsFrom_some _ _ _ (.inl q)⟩
  refine codeAny_call_function hr.depth (KX _ _ lk) rfl S.co S.gen rfl (PySem.W.codeRec_of KX hcd) (hb _ _ _ _ ?_)
  refine wpAny_newFunctionEnv_cells S.kind hkind fun env he s1 x => ?_
  subst he
  refine ⟨lim.keeps x.toInCall.keep, codeAny_func ?_⟩
  obtain ⟨t, ht, hq⟩ := hbody A outer s H vs Q E (hr.deeper _) hsp
  have I : Inv (cxOf CX P w K mg base N qual scope f cdv A outer s H E) [] (start N vs) H s1 := inv_start S hr.hd e0 hl r x
  refine wpAny_mono (ht [] s1 (start N vs) H _ I hq) (fun fl s' hs => ?_) fun e s' hs => hs
  have fin : ∀ {σ' : St} {H' : Hp} {v : V} {u : Value}, Inv (cxOf CX P w K mg base N qual scope f cdv A outer s H E) [] σ' H' s' → RelV v u → Q v H' → CE outer P w H s Q u s' :=
    fun {σ' H' v u} J rv q => ⟨v, H', J.os, J.bare, J.base, J.hok, rv, q⟩
  cases fl with
  | ret u =>
    obtain ⟨v, σ', H', J, rv, q⟩ := hs
    exact fin J rv q
  | next =>
    obtain ⟨σ', H', J, q⟩ := hs
    exact fin (v := V.non) (u := Value.none) J rfl q
  | brk =>
    obtain ⟨_, _, _, q⟩ := hs
    exact False.elim q
  | cont =>
    obtain ⟨_, _, _, q⟩ := hs
    exact False.elim q
end L2
namespace L2
open PySem PySem.Spec PyProof.Rows
section
variable {X : Cx} {x : Str} {p pos : Pos} {e : Expr} {es : List Expr} {t : TA} {id T : String} {r : List V → Hp → VK → Prop}
def tCB (r : List V → Hp → VK → Prop) (t : TA) : TE := fun σ H Q => t σ H fun vs H1 => r vs H1 Q
theorem pe_callB (hc : CallR X (.builtin id) r) (hg : Gl X x) (hm : X.mg x = none) (hv : bootBuiltins x = some (.builtin id)) (ha : PA X (e :: es) t) (hn : x ≠ "__name__" := by decide) (hdb : (x == ("__debug__" : Str)) = false := by decide)
    (he : starEach (e :: es) X.env = (false, eval e X.env) :: starEach es X.env := by rfl) (hpl : (backTo pos (starEach es X.env)).any (·.1) = false := by rfl) : PE X (.Call (.Name x p) (e :: es) [] pos) (tCB r t) := by
  intro pins s σ H Q I h
  refine wpAny_Call_Name_kw (ld_blt I hg hm hv ?_ hn hdb)
  exact PyProof.Rows.callWith_builtin1 (thn (ha pos pins s σ H _ I h) fun us s1 ⟨vs, H1, I1, r1, q1⟩ => hc pins s1 σ H1 vs us Q I1 r1 q1) he hpl
theorem pe_callTy (hc : CallR X (.type T) r) (hg : Gl X x) (hm : X.mg x = none) (hv : bootBuiltins x = some (.type T)) (ha : PA X (e :: es) t) (hn : x ≠ "__name__" := by decide) (hdb : (x == ("__debug__" : Str)) = false := by decide)
    (he : starEach (e :: es) X.env = (false, eval e X.env) :: starEach es X.env := by rfl) (hpl : (backTo pos (starEach es X.env)).any (·.1) = false := by rfl) : PE X (.Call (.Name x p) (e :: es) [] pos) (tCB r t) := by
  intro pins s σ H Q I h
  refine wpAny_Call_Name_kw (ld_blt I hg hm hv ?_ hn hdb)
  exact PyProof.Rows.callWith_type1 (thn (ha pos pins s σ H _ I h) fun us s1 ⟨vs, H1, I1, r1, q1⟩ => hc pins s1 σ H1 vs us Q I1 r1 q1) he hpl
end
end L2
namespace HT
open PySem PyProof.Rows
section
open PySem.SeqAt
open PySem.AutoSeq1 (wpAny_loadPart')
open PySem.MeetsSeq PySem.MeetsSeq2 PySem.MeetsSeq3
end
section
variable {prog : Program} {w : World} {A : Around} {E : Value → Shared → Prop} {s : Shared}
theorem cat_tup {t b : Addr} {vs ws : List Value} {Q : Value → Shared → Prop} (ht : IsTup s.heap t vs.toArray) (hb : IsTup s.heap b ws.toArray) (hv : vs ≠ [])
    (h1 : ws = [] → Q (.ref t) s) (h2 : ws ≠ [] → Q (.ref s.heap.objs.size) { s with heap := s.heap.push { cls := .type "tuple", data := .seq (vs ++ ws).toArray } })
    (hsz : vs.length + ws.length ≤ sizeLine) : wpAny (model prog w) A (binaryOp .Add (.ref t) (.ref b)) Q E s := by
  obtain ⟨⟨cls, dd, data, sl⟩, ho, hc, n, hd⟩ := id ht
  obtain ⟨⟨cls2, dd2, data2, sl2⟩, ho2, hc2, n2, hd2⟩ := id hb
  simp only at hc hd hc2 hd2
  subst hc hd hc2 hd2
  have e : vs.toArray ++ ws.toArray = (vs ++ ws).toArray := by simp
  by_cases hw : ws = []
  · exact concat_meets ⟨_, ho, rfl⟩ ⟨_, ho2, rfl⟩ noFill_tuple_add seq_tuple_add PySem.F.slot_tuple_add PySem.F.entry_tuple_add (PySem.F.args_tuple_add_2 _ _)
      (tuple_addW1 t b vs.toArray ws.toArray n n2 dd dd2 sl sl2 (by simpa using hv) (by simp [hw])) ⟨ho, ho2, h1 hw⟩
  · refine concat_meets ⟨_, ho, rfl⟩ ⟨_, ho2, rfl⟩ noFill_tuple_add seq_tuple_add PySem.F.slot_tuple_add PySem.F.entry_tuple_add (PySem.F.args_tuple_add_2 _ _)
      (tuple_addW2 t b vs.toArray ws.toArray n n2 dd dd2 sl sl2 (by simpa using hv) (by simpa using hw) (by rw [List.size_toArray, List.size_toArray]; exact hsz)) ⟨ho, ho2, ?_⟩
    rw [e]
    exact h2 hw
def sIx (n d : Nat) : Option Int → Nat
  | none => d
  | some v => if v < 0 then (v + (n : Int)).toNat else min v.toNat n
theorem sIx_le (n d : Nat) (hd : d ≤ n) (o : Option Int) : sIx n d o ≤ n := by
  cases o with
  | none => exact hd
  | some v =>
    show (if v < 0 then (v + (n : Int)).toNat else min v.toNat n) ≤ n
    by_cases hv : v < 0
    · rw [if_pos hv]; omega
    · rw [if_neg hv]; exact Nat.min_le_right _ _
theorem clip_eq (v : Int) (n d : Nat) : (if v < 0 then max (v + (n : Int)) 0 else min v (n : Int)) = ((sIx n d (some v) : Nat) : Int) := by
  show (if v < 0 then max (v + (n : Int)) 0 else min v (n : Int)) = (((if v < 0 then (v + (n : Int)).toNat else min v.toNat n) : Nat) : Int)
  by_cases hv : v < 0
  · simp only [if_pos hv]; omega
  · simp only [if_neg hv]; omega
theorem adjust_gen (lo hi : Option Int) (n : Nat) : Builtin.Slice.sliceAdjust lo hi 1 (n : Int) = (((sIx n 0 lo : Nat) : Int), ((sIx n n hi : Nat) : Int)) := by
  have h1 : ¬ ((1 : Int) < 0) := by omega
  unfold Builtin.Slice.sliceAdjust
  simp only [h1, if_false]
  refine Prod.ext ?_ ?_
  · cases lo with
    | none => rfl
    | some v => exact clip_eq v n 0
  · cases hi with
    | none => rfl
    | some v => exact clip_eq v n n
theorem places_gen (i j : Nat) : Builtin.Slice.slicePlaces (i : Int) (j : Int) 1 = j - i := by
  unfold Builtin.Slice.slicePlaces
  have h1 : (1 : Int) > 0 := by omega
  simp only [h1, if_true, Int.ediv_one]
  split <;> omega
theorem slicePart_ {v : Value} {o : Option Int} {Q : Option Int → Shared → Prop} (p : IsPart v o) (h : Q o s) : wpAny (model prog w) A (Builtin.Slice.slicePartIndex v) Q E s := by
  cases p with
  | none => exact slicePart_none h
  | int i t => exact slicePart_int h
theorem sliceApplied_gen {sl : Addr} {vl vu : Value} {lo hi : Option Int} {n : Nat} {Q : Int × Int × Nat → Shared → Prop} (hs : s.heap.IsSliceOf sl vl vu .none) (pl : IsPart vl lo) (pu : IsPart vu hi)
    (h : Q (((sIx n 0 lo : Nat) : Int), 1, sIx n n hi - sIx n 0 lo) s) : wpAny (model prog w) A (Builtin.Slice.sliceApplied (.ref sl) (pure (n : Int))) Q E s := by
  obtain ⟨os, hos, hcs, hds⟩ := id hs
  unfold Builtin.Slice.sliceApplied Builtin.Slice.sliceFields
  refine wpAny_bind (wpAny_bind (wpAny_field hos hds (x := vl) rfl (wpAny_bind (wpAny_field hos hds (x := vu) rfl (wpAny_bind (wpAny_field hos hds (x := .none) rfl (wpAny_pure ?_)))))))
  refine wpAny_bind (slicePart_none ?_)
  show wpAny _ _ (if ((1 : Int) == 0) = true then _ else _) _ _ s
  rw [if_neg (by decide)]
  refine wpAny_bind (slicePart_ pl (wpAny_bind (slicePart_ pu (wpAny_bind (wpAny_pure ?_)))))
  show wpAny _ _ (match Builtin.Slice.sliceAdjust lo hi 1 (n : Int) with | (lo, hi) => pure (lo, (1 : Int), Builtin.Slice.slicePlaces lo hi 1)) _ _ s
  rw [adjust_gen lo hi n]
  show wpAny _ _ (pure (((sIx n 0 lo : Nat) : Int), (1 : Int), Builtin.Slice.slicePlaces ((sIx n 0 lo : Nat) : Int) ((sIx n n hi : Nat) : Int) 1)) _ _ s
  rw [places_gen]
  exact wpAny_pure h
theorem pick_gen (xs : Array Value) (i k : Nat) : ((List.range k).filterMap fun (m : Nat) => xs[((i : Int) + (m : Int) * 1).toNat]?).toArray = ((xs.toList.drop i).take k).toArray := by
  have e : (fun (m : Nat) => xs[((i : Int) + (m : Int) * 1).toNat]?) = fun m => xs[i + m]? := by
    funext m
    have : ((i : Int) + (m : Int) * 1).toNat = i + m := by omega
    rw [this]
  rw [e]
  have := pick_run xs i k
  rw [List.filterMap_map] at this
  have e2 : ((fun x => xs[x]?) ∘ fun x => i + x) = fun m => xs[i + m]? := rfl
  rw [e2] at this
  rw [this]
theorem getItem_tuple_cut {t sl : Addr} {items : Array Value} {vl vu : Value} {lo hi : Option Int} {Q : Value → Shared → Prop} (ht : IsTup s.heap t items) (hs : s.heap.IsSliceOf sl vl vu .none) (pl : IsPart vl lo) (pu : IsPart vu hi)
    (hw : ¬ (sIx items.size 0 lo = 0 ∧ sIx items.size items.size hi = items.size))
    (h : Q (.ref s.heap.objs.size) { s with heap := s.heap.push { cls := .type "tuple", data := .seq ((items.toList.drop (sIx items.size 0 lo)).take (sIx items.size items.size hi - sIx items.size 0 lo)).toArray } })
    (hsz : items.size ≤ sizeLine) : wpAny (model prog w) A (getItem (.ref t) (.ref sl)) Q E s := by
  have htake : sizeOk (.seq ((items.toList.drop (sIx items.size 0 lo)).take (sIx items.size items.size hi - sIx items.size 0 lo)).toArray) := by
    show ((items.toList.drop (sIx items.size 0 lo)).take (sIx items.size items.size hi - sIx items.size 0 lo)).toArray.size ≤ sizeLine
    rw [List.size_toArray, List.length_take, List.length_drop, Array.length_toList]
    omega
  have hj : sIx items.size items.size hi ≤ items.size := sIx_le _ _ (Nat.le_refl _) hi
  obtain ⟨os, hos, hcs, hds⟩ := id hs
  have hTs : s.TypeIs (.ref sl) "slice" := ⟨os, hos, hcs⟩
  unfold getItem
  try with_reducible refine wpAny_holding ?_
  first | refine wpAny_bind (wpAny_pure ?_) | skip
  refine wpAny_bind (wpAny_sequenceKey ht.typeIs (by decide) ?_)
  refine wpAny_bind (wpAny_callSpecial?_slot (name := Str.ofString "__getitem__") ht.typeIs PyProof.Rows.slot_tuple_getitem
    (wpAny_call_entry PyProof.Rows.slot_tuple_getitem ht.typeIs entry_tuple_getitem ?_ (args_tuple_getitem _ _)))
  show wpAny _ _ (Builtin.Tuple.tupleItemsOf (.ref t) >>= _) _ _ s
  refine wpAny_bind (tupleItemsOf_ ht ?_)
  refine wpAny_bind (wpAny_typeOf hTs ?_)
  rw [if_pos (by decide)]
  refine wpAny_bind (sliceApplied_gen hs pl pu ?_)
  have hno : ¬ ((((sIx items.size 0 lo : Nat) : Int) == 0 && (1 : Int) == 1 && (sIx items.size items.size hi - sIx items.size 0 lo) == items.size) = true) := by
    intro q
    rw [Bool.and_eq_true, Bool.and_eq_true] at q
    have q1 : ((sIx items.size 0 lo : Nat) : Int) = 0 := eq_of_beq q.1.1
    have q2 : sIx items.size items.size hi - sIx items.size 0 lo = items.size := eq_of_beq q.2
    exact hw ⟨by omega, by omega⟩
  show wpAny _ _ (if (((sIx items.size 0 lo : Nat) : Int) == 0 && (1 : Int) == 1 && (sIx items.size items.size hi - sIx items.size 0 lo) == items.size) = true then _ else _) _ _ s
  rw [if_neg hno, pick_gen]
  first
    | exact wpAny_bind (m := Builtin.Tuple.tupleExact _) (wpAny_newObj_type (wpAny_pure ⟨_, rfl, wpAny_pure h⟩) htake)
    | exact wpAny_bind (m := Builtin.Tuple.tupleExact _) (wpAny_newObj_type (wpAny_bind (wpAny_pure (wpAny_pure ⟨_, rfl, wpAny_pure h⟩))) htake)
    | exact wpAny_bind (wpAny_bind (m := Builtin.Tuple.tupleExact _) (wpAny_newObj_type (wpAny_pure (wpAny_pure ⟨_, rfl, wpAny_pure h⟩)) htake))
    | exact wpAny_bind (wpAny_bind (m := Builtin.Tuple.tupleExact _) (wpAny_newObj_type (wpAny_pure ⟨_, rfl, wpAny_pure h⟩) htake))
end
end HT
namespace L2
open PySem PySem.Spec PyProof.Rows
abbrev TO := St → Hp → (Option Int → Hp → Prop) → Prop
def PO (X : Cx) (e : Option Expr) (t : TO) : Prop :=
  ∀ (pins : List (Addr × Obj)) (s : Shared) (σ : St) (H : Hp) (Q : Option Int → Hp → Prop), Inv X pins σ H s → t σ H Q →
    wpAny (model X.prog X.w) X.A (evalPart e X.env) (fun u s' => ∃ o H', Inv X pins σ H' s' ∧ IsPart u o ∧ Q o H') X.xe s
def tNoPart : TO := fun _ H Q => Q none H
def tPart (t : TE) : TO := fun σ H Q => t σ H fun x H1 => ∃ i, x = .int i ∧ Q (some i) H1
section
variable {X : Cx} {e : Expr} {te : TE} {lo hi : Option Expr} {tl th : TO} {pos p2 : Pos}
theorem po_none : PO X none tNoPart := by
  intro pins s σ H Q I h
  rw [evalPart_none]
  exact wpAny_pure ⟨none, H, I, .none, h⟩
theorem po_some (h : PE X e te) : PO X (some e) (tPart te) := by
  intro pins s σ H Q I hw
  rw [evalPart_some]
  refine thn (h pins s σ H _ I hw) fun u s1 ⟨x, H1, I1, r1, q1⟩ => ?_
  obtain ⟨i, rfl, q⟩ := q1
  obtain ⟨t, rfl⟩ := r1
  exact ⟨some i, H1, I1, .int i t, q⟩
def SlR (X : Cx) (r : V → Option Int → Option Int → Hp → VK → Prop) : Prop :=
  ∀ (pins : List (Addr × Obj)) (s : Shared) (σ : St) (H : Hp) (x : V) (v vl vu : Value) (lo hi : Option Int) (sl : Addr) (Q : VK), Inv X pins σ H s → RelV x v → s.heap.IsSliceOf sl vl vu .none → IsPart vl lo → IsPart vu hi → r x lo hi H Q →
    ∃ T id, typeLookup (.type T) "__getitem__" = pure (some (.builtin id)) ∧ s.TypeIs v T ∧ wpAny (model X.prog X.w) X.A (getItem v (.ref sl)) (EP X pins σ Q) X.xe s
theorem SlR.or {r r' : V → Option Int → Option Int → Hp → VK → Prop} (h : SlR X r) (h' : SlR X r') : SlR X (fun x lo hi H Q => r x lo hi H Q ∨ r' x lo hi H Q) := by
  intro pins s σ H x v vl vu lo hi sl Q I rx hs pl pu q
  rcases q with q | q
  · exact h pins s σ H x v vl vu lo hi sl Q I rx hs pl pu q
  · exact h' pins s σ H x v vl vu lo hi sl Q I rx hs pl pu q
def tSl (r : V → Option Int → Option Int → Hp → VK → Prop) (te : TE) (tl th : TO) : TE := fun σ H Q => te σ H fun x H1 => tl σ H1 fun l H2 => th σ H2 fun u H3 => r x l u H3 Q
theorem pe_slice {r : V → Option Int → Option Int → Hp → VK → Prop} (hr : SlR X r) (he : PE X e te) (hl : PO X lo tl) (hu : PO X hi th) : PE X (.Subscript e (.Slice lo hi none p2) pos) (tSl r te tl th) := by
  intro pins s σ H Q I h
  refine Subscript_ (thn (he pins s σ H _ I h) fun v s1 ⟨x, H1, I1, r1, q1⟩ => ?_)
  refine wpAny_Slice (thn (hl pins s1 σ H1 _ I1 q1) fun vl s2 ⟨l, H2, I2, pl, q2⟩ => thn (hu pins s2 σ H2 _ I2 q2) fun vu s3 ⟨u, H3, I3, pu, q3⟩ => ?_)
  rw [evalPart_none]
  refine wpAny_pure ?_
  have I4 : Inv X pins σ H3 { s3 with heap := s3.heap.push { cls := .type "slice", data := .fields #[vl, vu, .none] } } := I3.kept (t' := s3.toks) fun b ob q => Heap.get?_push_of_some _ q
  obtain ⟨T, id, hT, ht, hg⟩ := hr pins { s3 with heap := s3.heap.push { cls := .type "slice", data := .fields #[vl, vu, .none] } } σ H3 x v vl vu l u s3.heap.objs.size Q I4 r1 (Heap.IsSliceOf.new ..) pl pu q3
  show wpAny (model X.prog X.w) X.A (subscriptTail e (.Slice lo hi none p2) v (.ref s3.heap.objs.size)) (EP X pins σ Q) X.xe { s3 with heap := s3.heap.push { cls := .type "slice", data := .fields #[vl, vu, .none] } }
  exact tail_any (ops := [.ref s3.heap.objs.size, v]) ht hT hg (by with_unfolding_all rfl)
def cutV (xs : List V) (lo hi : Option Int) : List V := (xs.drop (HT.sIx xs.length 0 lo)).take (HT.sIx xs.length xs.length hi - HT.sIx xs.length 0 lo)
theorem cutV_length (xs : List V) (lo hi : Option Int) : (cutV xs lo hi).length ≤ xs.length := by
  unfold cutV
  rw [List.length_take, List.length_drop]
  omega
def rSlT (K : PySem.W.Frag) : V → Option Int → Option Int → Hp → VK → Prop := fun x lo hi H Q => ∃ a xs, x = .ref a ∧ SqT K H a xs ∧
  ¬ (HT.sIx xs.length 0 lo = 0 ∧ HT.sIx xs.length xs.length hi = xs.length) ∧ ∀ p, H p = none → Q (.ref p) (upd H p (.tup (cutV xs lo hi)))
theorem sl_tup : SlR X (rSlT X.K) := by
  intro pins s σ H x v vl vu lo hi sl Q I rx hs pl pu h
  obtain ⟨a, xs, rfl, hx, hw, q⟩ := h
  cases rx
  obtain ⟨its, r, ht, hz⟩ := I.tuple hx
  have hlen : its.toArray.size = xs.length := by rw [List.size_toArray]; exact r.length.symm
  refine ⟨"tuple", _, PyProof.Rows.slot_tuple_getitem.lookup, ht.typeIs, ?_⟩
  refine HT.getItem_tuple_cut ht hs pl pu (by rw [hlen]; exact hw) ?_ (by rw [hlen]; exact hz)
  rw [hlen]
  refine ⟨.ref s.heap.objs.size, _, I.laid (t' := s.toks) (o := .tup (cutV xs lo hi)) (fun b ob q => Heap.get?_push_of_some _ q) (Nat.le_refl _) ?_, rfl, q _ (I.hok.fresh (Nat.le_refl _))⟩
  exact ⟨Nat.le_trans (cutV_length xs lo hi) hz, _, (r.drop (HT.sIx xs.length 0 lo)).take (HT.sIx xs.length xs.length hi - HT.sIx xs.length 0 lo), IsTup.new _ _⟩
end
end L2
namespace L2
open PySem PySem.Spec PyProof.Rows
def ixN (n : Nat) (i : Int) : Option Nat := if 0 ≤ i then (if i < n then some i.toNat else none) else if -(n : Int) ≤ i then some (i + n).toNat else none
def atI {α : Type} (xs : List α) (i : Int) : Option α := (ixN xs.length i).bind fun j => xs[j]?
theorem ixN_seq {n : Nat} {i : Int} {j : Nat} (h : ixN n i = some j) : seqIndex? i n = some j ∧ j < n ∧ -(n : Int) ≤ i ∧ i < n := by
  unfold ixN at h
  by_cases h0 : 0 ≤ i
  · rw [if_pos h0] at h
    by_cases h1 : i < n
    · rw [if_pos h1] at h
      have e : i.toNat = j := Option.some.inj h
      exact ⟨by rw [seqIndex_of h0 h1, e], by omega, by omega, h1⟩
    · rw [if_neg h1] at h; cases h
  · rw [if_neg h0] at h
    by_cases h1 : -(n : Int) ≤ i
    · rw [if_pos h1] at h
      have e : (i + n).toNat = j := Option.some.inj h
      exact ⟨by rw [seqIndex_neg (by omega) h1, e], by omega, h1, by omega⟩
    · rw [if_neg h1] at h; cases h
theorem atI_get {α : Type} {xs : List α} {i : Int} {v : α} (h : atI xs i = some v) : ∃ j, seqIndex? i xs.length = some j ∧ xs[j]? = some v ∧ j < xs.length ∧ -(xs.length : Int) ≤ i ∧ i < xs.length := by
  unfold atI at h
  cases e : ixN xs.length i with
  | none => rw [e] at h; cases h
  | some j =>
    rw [e] at h
    obtain ⟨h1, h2, h3, h4⟩ := ixN_seq e
    exact ⟨j, h1, h, h2, h3, h4⟩
theorem atI_nat {α : Type} {xs : List α} {j : Nat} {v : α} (h : xs[j]? = some v) : atI xs (j : Int) = some v := by
  have hj : j < xs.length := (List.getElem?_eq_some_iff.mp h).1
  have e : ixN xs.length (j : Int) = some j := by
    unfold ixN
    rw [if_pos (by omega), if_pos (by omega)]; simp
  unfold atI; rw [e]; exact h
theorem atI_last {α : Type} (xs : List α) (v : α) : atI (xs ++ [v]) (-1) = some v := by
  have hl : (xs ++ [v]).length = xs.length + 1 := by simp
  have e : ixN (xs ++ [v]).length (-1) = some xs.length := by
    unfold ixN
    rw [hl, if_neg (by decide), if_pos (by omega)]
    congr 1
    omega
  unfold atI
  rw [e]
  show (xs ++ [v])[xs.length]? = some v
  simp
def PlainIx (b : Expr) : Prop := ∀ o i, subscripted b false o i = operate [o, i] (getItem o i)
def IxR (X : Cx) (r : R2) : Prop :=
  ∀ (value slice : Expr) (pins : List (Addr × Obj)) (s : Shared) (σ : St) (H : Hp) (x y : V) (v u : Value) (Q : VK), Inv X pins σ H s → RelV x v → RelV y u → r x y H Q →
    subscripted slice false v u = operate [v, u] (getItem v u) → wpAny (model X.prog X.w) X.A (subscriptTail value slice v u) (EP X pins σ Q) X.xe s
def MtR (X : Cx) (id : String) (r : V → List V → Hp → VK → Prop) : Prop :=
  ∀ (pins : List (Addr × Obj)) (s : Shared) (σ : St) (H : Hp) (x : V) (xs : List V) (v : Value) (us : List Value) (Q : VK), Inv X pins σ H s → RelV x v → Vals xs us → r x xs H Q →
    wpAny (model X.prog X.w) X.A (call (.builtin id) (v :: us)) (EP X pins σ Q) X.xe s
section
variable {X : Cx} {a b : Expr} {ta tb : TE} {pos : Pos}
theorem IxR.or {r r' : R2} (h : IxR X r) (h' : IxR X r') : IxR X (fun x y H Q => r x y H Q ∨ r' x y H Q) := by
  intro value slice pins s σ H x y v u Q I rx ry q hs
  rcases q with q | q
  · exact h value slice pins s σ H x y v u Q I rx ry q hs
  · exact h' value slice pins s σ H x y v u Q I rx ry q hs
theorem MtR.or {id : String} {r r' : V → List V → Hp → VK → Prop} (h : MtR X id r) (h' : MtR X id r') : MtR X id (fun x xs H Q => r x xs H Q ∨ r' x xs H Q) := by
  intro pins s σ H x xs v us Q I rx rs q
  rcases q with q | q
  · exact h pins s σ H x xs v us Q I rx rs q
  · exact h' pins s σ H x xs v us Q I rx rs q
theorem pe_ix {r : R2} (hr : IxR X r) (ha : PE X a ta) (hb : PE X b tb) (hs : PlainIx b) : PE X (.Subscript a b pos) (tOp r ta tb) := by
  intro pins s σ H Q I h
  exact Subscript_ (binT ha hb I h fun v u s2 x y H2 I2 rx ry q => hr a b pins s2 σ H2 x y v u Q I2 rx ry q (hs _ _))
def rIxL (K : PySem.W.Frag) : R2 := fun x y H Q => ∃ p xs i v, x = .ref p ∧ y = .int i ∧ SqL K H p xs ∧ atI xs i = some v ∧ Q v H
def rIxT (K : PySem.W.Frag) : R2 := fun x y H Q => ∃ p xs i v, x = .ref p ∧ y = .int i ∧ SqT K H p xs ∧ atI xs i = some v ∧ Q v H
def rIxS : R2 := fun x y H Q => ∃ z i c, x = .str z ∧ y = .int i ∧ z.length ≤ sizeLine ∧ atI z.cps.toList i = some c ∧ Q (.str ⟨#[c]⟩) H
theorem ix_list : IxR X (rIxL X.K) := by
  intro value slice pins s σ H x y v u Q I rx ry h hs
  obtain ⟨p, xs, i, z, rfl, rfl, hq, he, q⟩ := h
  cases rx
  obtain ⟨t, rfl⟩ := ry
  obtain ⟨its, r, pl, hz⟩ := I.list hq
  obtain ⟨j, h1, h2, h3, h4, h5⟩ := atI_get he
  obtain ⟨w, ew, rw'⟩ := r.get h2
  have hl := r.length
  have hn := line63
  have fin : EP X pins σ Q w s := ⟨z, H, I, rw', q⟩
  by_cases h0 : 0 ≤ i
  · have hj : i.toNat = j := by
      rw [seqIndex_of h0 h5] at h1
      exact Option.some.inj h1
    exact item_listR pl.isList h0 (by omega) (by rw [hj]; simpa using ew) fin hs
  · have hj : (i + (its.toArray.size : Int)).toNat = j := by
      rw [seqIndex_neg (by omega) h4] at h1
      rw [List.size_toArray, ← hl]
      exact Option.some.inj h1
    exact subscriptTail_builtinR (x := w) pl.isList.typeIs slot_list_getitem.lookup
      (wpAny_getItem_list_neg (Q := fun r s' => r = w ∧ EP X pins σ Q r s') pl.isList (by omega) (by rw [List.size_toArray] <;> omega) (by omega) (by rw [hj]; simpa using ew) ⟨rfl, fin⟩) hs
theorem ix_tup : IxR X (rIxT X.K) := by
  intro value slice pins s σ H x y v u Q I rx ry h hs
  obtain ⟨p, xs, i, z, rfl, rfl, hq, he, q⟩ := h
  cases rx
  obtain ⟨t, rfl⟩ := ry
  obtain ⟨its, r, pl, hz⟩ := I.tuple hq
  obtain ⟨j, h1, h2, h3, h4, h5⟩ := atI_get he
  obtain ⟨w, ew, rw'⟩ := r.get h2
  have hl := r.length
  have hn := line63
  have fin : EP X pins σ Q w s := ⟨z, H, I, rw', q⟩
  exact subscriptTail_builtinR (x := w) pl.typeIs slot_tuple_getitem.lookup
    (getItem_tuple (j := j) (Q := fun r s' => r = w ∧ EP X pins σ Q r s') pl (by omega) (by omega) (by rw [List.size_toArray, ← hl]; exact h1) (by simpa using ew) ⟨rfl, fin⟩) hs
theorem ix_str : IxR X rIxS := by
  intro value slice pins s σ H x y v u Q I rx ry h hs
  obtain ⟨z, i, c, rfl, rfl, hz, he, q⟩ := h
  obtain ⟨t, rfl⟩ := rx
  obtain ⟨t', rfl⟩ := ry
  obtain ⟨j, h1, h2, h3, h4, h5⟩ := atI_get he
  have hl : z.cps.toList.length = z.length := by simp [Str.length]
  rw [hl] at h1 h4 h5
  have hn := line63
  exact tail_any (typeIs_str s z t) slot_str_getitem.lookup (getItem_str (c := c) (by
    have e1 : decide (i < -(2 ^ 63 : Int)) = false := decide_eq_false (by omega)
    have e2 : decide (i ≥ 2 ^ 63) = false := decide_eq_false (by omega)
    rw [e1, e2, Bool.or_false]) (by rw [h1]; simpa using h2) ⟨.str ⟨#[c]⟩, H, I.tok _, ⟨_, rfl⟩, q⟩) hs
def rIx (K : PySem.W.Frag) : R2 := fun x y H Q => rIxL K x y H Q ∨ rIxT K x y H Q ∨ rIxS x y H Q
theorem ix_seq : IxR X (rIx X.K) := ix_list.or (ix_tup.or ix_str)
theorem mapSeq_set (its : List Value) (n j : Nat) (u : Value) : Obj.mapSeq (·.setIfInBounds j u) { cls := .type "list", data := .seq its.toArray n } = { cls := .type "list", data := .seq (its.set j u).toArray n } := by
  simp [Obj.mapSeq]
theorem Inv.lst {pins : List (Addr × Obj)} {σ : St} {H : Hp} {s : Shared} {p : Addr} {xs : List V} (I : Inv X pins σ H s) (h : H p = some (.lst xs)) :
    ∃ (its : List Value) (n : Nat), Vals xs its ∧ s.heap.get? p = some { cls := .type "list", data := .seq its.toArray n } ∧ xs.length ≤ sizeLine := by
  obtain ⟨z, its, n, r, e⟩ := I.hok p _ h
  exact ⟨its, n, r, e, z⟩
theorem Inv.lstUpd {pins : List (Addr × Obj)} {σ : St} {H : Hp} {s : Shared} {p : Addr} {xs ys : List V} {its its' : List Value} {n n' : Nat} {f : Obj → Obj} (I : Inv X pins σ H s) (h : H p = some (.lst xs))
    (ho : s.heap.get? p = some { cls := .type "list", data := .seq its.toArray n }) (hf : f { cls := .type "list", data := .seq its.toArray n } = { cls := .type "list", data := .seq its'.toArray n' }) (r : Vals ys its') (hz : ys.length ≤ sizeLine) (t : Nat) :
    Inv X pins σ (upd H p (.lst ys)) { s with heap := s.heap.update p f, toks := t } := by
  have e : (s.heap.update p f).get? p = some { cls := .type "list", data := .seq its'.toArray n' } := by
    rw [Heap.get?_update_self f ho (by rw [hf] <;> rfl), hf]
  refine I.write (x := p) (e := p) (by rw [h]; trivial) (.inl rfl) (fun b u hb q => (Heap.get?_update_other _ _ (Ne.symm hb)).trans q) ⟨_, e⟩ ?_
  exact ⟨hz, its', n', r, e⟩
def rSetL : V → V → V → Hp → (Hp → Prop) → Prop := fun o i v H Q => ∃ p xs k j, o = .ref p ∧ i = .int k ∧ H p = some (.lst xs) ∧ ixN xs.length k = some j ∧ Q (upd H p (.lst (xs.set j v)))
theorem set_list : PSet X rSetL := by
  intro pins s σ H o i v ov iv u Q I ro ri rv h
  obtain ⟨p, xs, k, j, rfl, rfl, hp, hj, q⟩ := h
  cases ro
  obtain ⟨t, rfl⟩ := ri
  obtain ⟨its, n, r, ho, hz⟩ := I.lst hp
  obtain ⟨h1, h2, h3, h4⟩ := ixN_seq hj
  have hl := r.length
  have hn := line63
  have I' : Inv X pins σ (upd H p (.lst (xs.set j v))) { s with heap := s.heap.update p (Obj.mapSeq (·.setIfInBounds j u)) } :=
    I.lstUpd hp ho (mapSeq_set its n j u) (r.set rv j) (by rw [List.length_set]; exact hz) s.toks
  by_cases h0 : 0 ≤ k
  · have hk : k.toNat = j := by
      rw [seqIndex_of h0 h4] at h1
      exact Option.some.inj h1
    exact PySem.W.ki_setAt ho h0 (by omega) (by rw [List.size_toArray, ← hl]; exact h4) (by rw [hk]; exact ⟨_, I', q⟩)
  · have hk : (k + (its.toArray.size : Int)).toNat = j := by
      rw [seqIndex_neg (by omega) h3] at h1
      rw [List.size_toArray, ← hl]
      exact Option.some.inj h1
    exact PySem.W.ki_setBack ho (by omega) (by rw [List.size_toArray, ← hl]; exact h3) (by omega) (by rw [hk]; exact ⟨_, I', q⟩)
theorem slice_bounds (lo hi : Option Int) (n : Nat) : (sliceBounds lo hi none n).1 = ((HT.sIx n 0 lo : Nat) : Int) ∧ (sliceBounds lo hi none n).2.1 = ((HT.sIx n n hi : Nat) : Int) ∧ (sliceBounds lo hi none n).2.2 = 1 := by
  refine ⟨?_, ?_, rfl⟩
  · cases lo with
    | none => simp [sliceBounds, HT.sIx]
    | some i =>
      simp only [sliceBounds, HT.sIx, Option.getD_none, show (1 : Int) > 0 by decide, if_true]
      by_cases h : i < 0
      · simp only [h, if_true] <;> omega
      · simp only [h, if_false] <;> omega
  · cases hi with
    | none => simp [sliceBounds, HT.sIx]
    | some i =>
      simp only [sliceBounds, HT.sIx, Option.getD_none, show (1 : Int) > 0 by decide, if_true]
      by_cases h : i < 0
      · simp only [h, if_true] <;> omega
      · simp only [h, if_false] <;> omega
theorem slicePick_cut (its : List Value) (lo hi : Option Int) : slicePick its.toArray lo hi none = ((its.drop (HT.sIx its.length 0 lo)).take (HT.sIx its.length its.length hi - HT.sIx its.length 0 lo)).toArray := by
  obtain ⟨h1, h2, h3⟩ := slice_bounds lo hi its.toArray.size
  unfold slicePick
  rw [h1, h2, h3]
  simp only [sliceRange_one, pick_run, List.size_toArray] <;> rfl
def rSlL (K : PySem.W.Frag) : V → Option Int → Option Int → Hp → VK → Prop := fun x lo hi H Q => ∃ a xs, x = .ref a ∧ SqL K H a xs ∧ ∀ p, H p = none → Q (.ref p) (upd H p (.lst (cutV xs lo hi)))
theorem sl_list : SlR X (rSlL X.K) := by
  intro pins s σ H x v vl vu lo hi sl Q I rx hs pl pu h
  obtain ⟨a, xs, rfl, hx, q⟩ := h
  cases rx
  obtain ⟨its, r, ht, hz⟩ := I.list hx
  have hlen := r.length
  refine ⟨"list", _, slot_list_getitem.lookup, ht.isList.typeIs, ?_⟩
  refine wpAny_getItem_list_slice ht.isList hs pl pu .none (by simp) ?_ (by rw [List.size_toArray] <;> omega)
  rw [slicePick_cut, ← hlen]
  refine ⟨.ref s.heap.objs.size, _, I.laid (t' := s.toks) (o := .lst (cutV xs lo hi)) (fun b ob q => Heap.get?_push_of_some _ q) (Nat.le_refl _) ?_, rfl, q _ (I.hok.fresh (Nat.le_refl _))⟩
  exact ⟨Nat.le_trans (cutV_length xs lo hi) hz, _, 0, (r.drop (HT.sIx xs.length 0 lo)).take (HT.sIx xs.length xs.length hi - HT.sIx xs.length 0 lo), Heap.get?_push_size _ rfl⟩
def flatV : V → Bool
  | .non => true
  | .bl _ => true
  | .int _ => true
  | .str _ => true
  | _ => false
def eqV : V → V → Bool
  | .non, .non => true
  | .bl a, .bl b => a == b
  | .bl a, .int b => (if a then 1 else 0) == b
  | .int a, .bl b => a == (if b then 1 else 0)
  | .int a, .int b => a == b
  | .str a, .str b => a == b
  | _, _ => false
theorem eqAt_V {A : Around} {s : Shared} {y x : V} {u v : Value} (ry : RelV y u) (rx : RelV x v) (fy : flatV y = true) (fx : flatV x = true) : SeqAt.EqAt A s u v (eqV y x) := by
  cases y with
  | non =>
    cases ry
    cases x with
    | non => cases rx; exact SeqAt.EqAt.same _
    | bl b => cases rx; exact SeqAt.EqAt.none_bool b
    | int b => obtain ⟨t, rfl⟩ := rx; exact SeqAt.EqAt.none_int b t
    | str b => obtain ⟨t, rfl⟩ := rx; exact SeqAt.EqAt.none_str b t
    | _ => exact absurd (show false = true from fx) Bool.false_ne_true
  | bl a =>
    cases ry
    cases x with
    | non => cases rx; exact SeqAt.EqAt.bool_none a
    | bl b => cases rx; exact SeqAt.EqAt.bool_bool a b
    | int b => obtain ⟨t, rfl⟩ := rx; exact SeqAt.EqAt.bool_int a b t
    | str b => obtain ⟨t, rfl⟩ := rx; exact SeqAt.EqAt.bool_str a b t
    | _ => exact absurd (show false = true from fx) Bool.false_ne_true
  | int a =>
    obtain ⟨t', rfl⟩ := ry
    cases x with
    | non => cases rx; exact SeqAt.EqAt.int_none a t'
    | bl b => cases rx; exact SeqAt.EqAt.int_bool a t' b
    | int b => obtain ⟨t, rfl⟩ := rx; exact SeqAt.EqAt.int_int a t' b t
    | str b => obtain ⟨t, rfl⟩ := rx; exact SeqAt.EqAt.int_str a t' b t
    | _ => exact absurd (show false = true from fx) Bool.false_ne_true
  | str a =>
    obtain ⟨t', rfl⟩ := ry
    cases x with
    | non => cases rx; exact SeqAt.EqAt.str_none a t'
    | bl b => cases rx; exact SeqAt.EqAt.str_bool a t' b
    | int b => obtain ⟨t, rfl⟩ := rx; exact SeqAt.EqAt.str_int a t' b t
    | str b => obtain ⟨t, rfl⟩ := rx; exact SeqAt.EqAt.str_str a t' b t
    | _ => exact absurd (show false = true from fx) Bool.false_ne_true
  | _ => exact absurd (show false = true from fy) Bool.false_ne_true
def eqU (x : V) (u : Value) : Bool := match u with
  | .none => eqV .non x
  | .bool b => eqV (.bl b) x
  | .int i _ => eqV (.int i) x
  | .str z _ => eqV (.str z) x
  | _ => false
theorem eqU_of {x y : V} {u : Value} (r : RelV y u) (f : flatV y = true) : eqU x u = eqV y x := by
  cases y with
  | non => cases r; rfl
  | bl b => cases r; rfl
  | int i => obtain ⟨t, rfl⟩ := r; rfl
  | str z => obtain ⟨t, rfl⟩ := r; rfl
  | _ => exact absurd (show false = true from f) Bool.false_ne_true
theorem mem_eqAt {A : Around} {s : Shared} {x : V} {v : Value} (rx : RelV x v) (fx : flatV x = true) : ∀ {xs : List V} {us : List Value}, Vals xs us → xs.all flatV = true → ∀ u ∈ us, SeqAt.EqAt A s u v (eqU x u)
  | _, _, .nil, _ => fun u hu => by cases hu
  | y :: xs, u :: us, .cons r t, f => fun u' hu => by
    rw [List.all_cons, Bool.and_eq_true] at f
    rcases List.mem_cons.mp hu with rfl | hu
    · rw [eqU_of r f.1]; exact eqAt_V r rx f.1 fx
    · exact mem_eqAt rx fx t f.2 u' hu
theorem CallR.or {f : Value} {r r' : List V → Hp → VK → Prop} (h : CallR X f r) (h' : CallR X f r') : CallR X f (fun xs H Q => r xs H Q ∨ r' xs H Q) := by
  intro pins s σ H xs us Q I rs q
  rcases q with q | q
  · exact h pins s σ H xs us Q I rs q
  · exact h' pins s σ H xs us Q I rs q
theorem call_tuple_of : CallR X (.type "tuple") (fun xs H Q => ∃ p ys, xs = [.ref p] ∧ ((SqL X.K H p ys ∧ ∀ l, H l = none → Q (.ref l) (upd H l (.tup ys))) ∨ (SqT X.K H p ys ∧ Q (.ref p) H))) := by
  intro pins s σ H xs us Q I r h
  obtain ⟨p, ys, rfl, h⟩ := h
  obtain ⟨u, rfl, rx⟩ := vals1 r
  cases rx
  rcases h with ⟨hq, q⟩ | ⟨hq, q⟩
  · obtain ⟨its, r', pl, hz⟩ := I.list hq
    have hlen := r'.length
    refine call_tuple_list pl.isList (fun h' kp => ?_) (by simp only [List.size_toArray] <;> omega)
    have I1 : Inv X pins σ H { s with heap := h' } := I.kept (t' := s.toks) kp
    have I2 : Inv X pins σ (upd H h'.objs.size (.tup ys)) { s with heap := h'.push { cls := .type "tuple", data := .seq its.toArray } } :=
      I1.laid (t' := s.toks) (fun b o e => Heap.get?_push_of_some _ e) (Nat.le_refl _) (show ObjOk X.prog X.w _ _ _ (.tup ys) from ⟨hz, its, r', IsTup.new _ _⟩)
    exact ⟨.ref h'.objs.size, _, I2, rfl, q _ (I1.hok.fresh (Nat.le_refl _))⟩
  · obtain ⟨its, r', pl, hz⟩ := I.tuple hq
    exact call_tuple_same pl ⟨.ref p, H, I, rfl, q⟩
def tyV (K : PySem.W.Frag) (T : String) (x : V) (H : Hp) : Prop := match x with
  | .str _ => T = "str"
  | .int _ => T = "int"
  | .ref p => (T = "list" ∧ ∃ xs, SqL K H p xs) ∨ (T = "tuple" ∧ ∃ o, K.lookup p = some o ∧ o.cls = .type "tuple" ∧ o.dict = none) ∨
      (T = "dict" ∧ ((∃ kvs, H p = some (.dK kvs)) ∨ ∃ kvs, H p = some (.dT kvs))) ∨ (T = "set" ∧ ∃ S n, H p = some (.set S n))
  | _ => False
theorem tyV_is {pins : List (Addr × Obj)} {σ : St} {H : Hp} {s : Shared} {T : String} {x : V} {v : Value} (I : Inv X pins σ H s) (r : RelV x v) (ty : tyV X.K T x H) :
    s.TypeIs v T ∧ ∀ a, v = .ref a → ∃ ob, s.heap.get? a = some ob ∧ ob.dict = none := by
  cases x with
  | str z =>
    obtain ⟨t, rfl⟩ := r
    cases (show T = "str" from ty)
    exact ⟨typeIs_str s z t, fun _ e => nomatch e⟩
  | int i =>
    obtain ⟨t, rfl⟩ := r
    cases (show T = "int" from ty)
    exact ⟨typeIs_int s i t, fun _ e => nomatch e⟩
  | ref p =>
    cases r
    rcases ty with ⟨rfl, xs, hq⟩ | ⟨rfl, o, hk, hc, hd⟩ | ⟨rfl, hk⟩ | ⟨rfl, S, n, hk⟩
    · obtain ⟨its, _, pl, _⟩ := I.list hq
      refine ⟨pl.isList.typeIs, fun a e => ?_⟩
      cases e
      obtain ⟨o, n, e, c, hd, _⟩ := pl
      exact ⟨o, e, hd⟩
    · refine ⟨⟨o, I.kIn p o hk, hc⟩, fun a e => ?_⟩
      cases e
      exact ⟨o, I.kIn _ o hk, hd⟩
    · have z : ∃ o, s.heap.get? p = some o ∧ o.ExactDict := by
        rcases hk with ⟨kvs, hk⟩ | ⟨kvs, hk⟩
        · obtain ⟨_, _, _, _, o, _, _, e, ex, _⟩ := I.hok p _ hk
          exact ⟨o, e, ex⟩
        · obtain ⟨_, _, _, _, o, _, _, e, ex, _⟩ := I.hok p _ hk
          exact ⟨o, e, ex⟩
      obtain ⟨o, e, ex⟩ := z
      refine ⟨⟨o, e, ex.1⟩, fun a e2 => ?_⟩
      cases e2
      exact ⟨o, e, ex.2.1⟩
    · obtain ⟨o, _, _, _, e, ex, _⟩ := I.hok p _ hk
      refine ⟨⟨o, e, ex.1⟩, fun a e2 => ?_⟩
      cases e2
      exact ⟨o, e, ex.2.1⟩
  | _ => exact False.elim ty
def tBM0 (K : PySem.W.Frag) (T : String) (r : V → List V → Hp → VK → Prop) (to : TE) : TE := fun σ H Q => to σ H fun x H1 => tyV K T x H1 ∧ r x [] H1 Q
def tBM (K : PySem.W.Frag) (T : String) (r : V → List V → Hp → VK → Prop) (to : TE) (t : TA) : TE := fun σ H Q => to σ H fun x H1 => tyV K T x H1 ∧ t σ H1 fun xs H2 => r x xs H2 Q
variable {o e : Expr} {es : List Expr} {to : TE} {t : TA} {name : Str} {apos cpos : Pos} {T id : String} {r : V → List V → Hp → VK → Prop}
theorem pe_bm0 (pa : PlainAttrs T) (slot : Slot T name id) (hty : typeOf (.builtin id) = pure (.type "method_descriptor")) (hm : MtR X id r) (ho : PE X o to)
    (hbase : attributeBase o name X.env (eval o X.env) = eval o X.env := by rfl) (hline : (apos.endLine == cpos.line) = true := by rfl) : PE X (.Call (.Attribute o name apos) [] [] cpos) (tBM0 X.K T r to) := by
  intro pins s σ H Q I h
  refine wpAny_Call_method0_late hbase hline (thn (ho pins s σ H _ I h) fun v s1 ⟨x, H1, I1, r1, ty, q1⟩ => ?_)
  obtain ⟨h1, h2⟩ := tyV_is I1 r1 ty
  exact ⟨T, id, pa, slot, hty, h1, h2, Calls.callWith_builtin rfl (PySem.evalArgs_none (hm pins s1 σ H1 x [] v [] Q I1 r1 .nil q1))⟩
theorem pe_bm (pa : PlainAttrs T) (slot : Slot T name id) (hty : typeOf (.builtin id) = pure (.type "method_descriptor")) (hm : MtR X id r) (ho : PE X o to) (ha : PA X (e :: es) t)
    (hbase : attributeBase o name X.env (eval o X.env) = eval o X.env := by rfl)
    (hfew : ((backTo cpos (starEach (e :: es) X.env)).all (fun x => !x.1) && (backToKw cpos (keywordEach [] X.env)).all (fun x => x.1.isSome)
      && decide ((e :: es).length + ([] : List Keyword).length + (if ([] : List Keyword).isEmpty then 0 else 1) < 30)) = true := by rfl)
    (hline : (apos.endLine == cpos.line) = true := by rfl) (hs : starEach (e :: es) X.env = (false, eval e X.env) :: starEach es X.env := by rfl) (hplain : (backTo cpos (starEach es X.env)).any (·.1) = false := by rfl) :
    PE X (.Call (.Attribute o name apos) (e :: es) [] cpos) (tBM X.K T r to t) := by
  intro pins s σ H Q I h
  refine wpAny_Call_method_late hbase hfew hline rfl (thn (ho pins s σ H _ I h) fun v s1 ⟨x, H1, I1, r1, ty, q1⟩ => ?_)
  obtain ⟨h1, h2⟩ := tyV_is I1 r1 ty
  refine ⟨T, id, pa, slot, hty, h1, h2, ?_⟩
  have hA := ha cpos pins s1 σ H1 _ I1 q1
  rw [hs] at hA ⊢
  refine Calls.callWith_builtin (by show (false || (backTo cpos (starEach es X.env)).any (·.1)) = false; rw [hplain] <;> rfl) (Calls.evalArgs_plain ?_)
  exact thn hA fun us s2 ⟨vs, H2, I2, r2, q2⟩ => hm pins s2 σ H2 x vs v us Q I2 r1 r2 q2
/- xs.append(e), list.index on a module's tuple .. are MtR facts of 06m -/
end
end L2
namespace L2
open PySem PySem.Spec PyProof.Rows
def MtM (X : Cx) (id : String) (r : V → List V → Hp → VK → Prop) : Prop :=
  ∀ (pins : List (Addr × Obj)) (s : Shared) (σ : St) (H : Hp) (x : V) (xs : List V) (v : Value) (us : List Value) (Q : VK), Inv X pins σ H s → RelV x v → Vals xs us → r x xs H Q →
    wpAny (model X.prog X.w) X.A (call (.builtin id) (v :: us)) (EP X pins σ Q) X.xe s
theorem Vals.one : ∀ {x : V} {us : List Value}, Vals [x] us → ∃ u, us = [u] ∧ RelV x u
  | _, _, .cons r .nil => ⟨_, rfl, r⟩
theorem Vals.two : ∀ {x y : V} {us : List Value}, Vals [x, y] us → ∃ u v, us = [u, v] ∧ RelV x u ∧ RelV y v
  | _, _, _, .cons r (.cons q .nil) => ⟨_, _, rfl, r, q⟩
theorem Vals.zero : ∀ {us : List Value}, Vals [] us → us = []
  | _, .nil => rfl
theorem Vals.reverse {xs : List V} {us : List Value} (h : Vals xs us) : Vals xs.reverse us.reverse := by
  induction h with
  | nil => exact .nil
  | cons r t ih => rw [List.reverse_cons, List.reverse_cons]; exact Vals.append ih (.cons r .nil)
section
variable {X : Cx} {pins : List (Addr × Obj)} {σ : St} {H : Hp} {s : Shared} {l b : Addr} {xs ys zs : List V}
theorem Inv.lset {its its' : List Value} {n : Nat} {f : Array Value → Array Value} {t' : Nat} (I : Inv X pins σ H s) (hH : H l = some (.lst xs))
    (e : s.heap.get? l = some { cls := .type "list", data := .seq its.toArray n }) (hf : f its.toArray = its'.toArray) (hv : Vals ys its') (hz : ys.length ≤ sizeLine) :
    Inv X pins σ (upd H l (.lst ys)) { s with heap := s.heap.update l (Obj.mapSeq f), toks := t' } := by
  have q := PySem.IsL.update e f
  rw [hf] at q
  refine I.write (x := l) (e := l) (by rw [hH]; exact trivial) (.inl rfl) (fun b' u hb hu => (Heap.get?_update_other s.heap (Obj.mapSeq f) (Ne.symm hb)).trans hu) ⟨_, q⟩ ?_
  exact ⟨hz, its', _, hv, q⟩
theorem Inv.lnew {its : List Value} {t' : Nat} (I : Inv X pins σ H s) (hv : Vals ys its) (hz : ys.length ≤ sizeLine) :
    Inv X pins σ (upd H s.heap.objs.size (.lst ys)) { s with heap := s.heap.push { cls := .type "list", data := .seq its.toArray }, toks := t' } :=
  I.laid (fun _ _ q => Heap.get?_push_of_some _ q) (Nat.le_refl _) ⟨hz, its, 0, hv, Heap.get?_push_size _ rfl⟩
theorem Inv.fresh (I : Inv X pins σ H s) : H s.heap.objs.size = none := I.hok.fresh (Nat.le_refl _)
theorem Inv.lstM (I : Inv X pins σ H s) (hH : H l = some (.lst xs)) : xs.length ≤ sizeLine ∧ ∃ (its : List Value) (n : Nat), Vals xs its ∧ xs.length = its.length ∧ s.heap.get? l = some { cls := .type "list", data := .seq its.toArray n } := by
  obtain ⟨z, its, n, r, e⟩ := I.hok l _ hH
  exact ⟨z, its, n, r, r.length, e⟩
end
section
variable {X : Cx}
def rAppend : V → List V → Hp → VK → Prop := fun x vs H Q => ∃ l xs y, x = .ref l ∧ vs = [y] ∧ H l = some (.lst xs) ∧ xs.length < sizeLine ∧ Q .non (upd H l (.lst (xs ++ [y])))
theorem mt_append : MtM X "list.append" rAppend := by
  intro pins s σ H x vs v us Q I rx rv h
  obtain ⟨l, xs, y, rfl, rfl, hH, hz, q⟩ := h
  cases rx
  obtain ⟨u, rfl, ru⟩ := rv.one
  obtain ⟨z, its, n, r, hl, e⟩ := I.lstM hH
  refine call_meets F.slot_list_append ⟨_, e, rfl⟩ F.entry_list_append (F.args_list_append_2 _ _) (PySem.list_append l its.toArray n u (by rw [List.size_toArray]; omega)) ⟨e, ?_⟩
  refine ⟨.non, _, I.lset (its' := its ++ [u]) hH e (by simp) (r.append (.cons ru .nil)) ?_, rfl, q⟩
  rw [List.length_append, List.length_singleton]
  omega
end
section
variable {prog : Program} {w : World} {A : Around} {E : Value → Shared → Prop} {s : Shared}
end
section
variable {X : Cx}
end
end L2
namespace L2
open PySem PySem.Spec PyProof.Rows
section
variable {prog : Program} {w : World} {A : Around} {E : Value → Shared → Prop} {s : Shared} {l : Addr} {its : List Value} {ns : List Int} {Q : Value → Shared → Prop}
end
section
variable {X : Cx}
end
section
variable {X : Cx}
theorem flat_at {ys : List V} (f : ys.all flatV = true) {j : Nat} {z : V} (h : ys[j]? = some z) : flatV z = true := List.all_eq_true.mp f z (List.mem_of_getElem? h)
end
section
variable {X : Cx}
end
section
variable {X : Cx}
end
mutual
inductive Dp (K : PySem.W.Frag) (H : Hp) : V → PyData → Prop
  | non : Dp K H .non .none
  | bl (b : Bool) : Dp K H (.bl b) (.bool b)
  | int (i : Int) : Dp K H (.int i) (.int i)
  | str (x : Str) : Dp K H (.str x) (.str x)
  | lst {a : Addr} {xs : List V} {ds : List PyData} : SqL K H a xs → DpAll K H xs ds → Dp K H (.ref a) (.list ds)
  | tup {a : Addr} {xs : List V} {ds : List PyData} : SqT K H a xs → DpAll K H xs ds → Dp K H (.ref a) (.tuple ds)
inductive DpAll (K : PySem.W.Frag) (H : Hp) : List V → List PyData → Prop
  | nil : DpAll K H [] []
  | cons {v : V} {vs : List V} {d : PyData} {ds : List PyData} : Dp K H v d → DpAll K H vs ds → DpAll K H (v :: vs) (d :: ds)
end
section
variable {X : Cx} {pins : List (Addr × Obj)} {σ : St} {H : Hp} {s : Shared}
mutual
theorem Dp.reads (I : Inv X pins σ H s) : ∀ (d : PyData) (v : V) (u : Value), Dp X.K H v d → RelV v u → ∃ as, Reads s.heap u d as
  | .none, _, _, h, r => by
    cases h
    cases r
    exact ⟨_, Reads.none⟩
  | .bool b, _, _, h, r => by
    cases h
    cases r
    exact ⟨_, Reads.bool b⟩
  | .int i, _, _, h, r => by
    cases h
    obtain ⟨t, rfl⟩ := r
    exact ⟨_, Reads.int i t⟩
  | .str x, _, _, h, r => by
    cases h
    obtain ⟨t, rfl⟩ := r
    exact ⟨_, Reads.str x t⟩
  | .list ds, _, _, h, r => by
    cases h with
    | lst hs ha =>
      cases r
      obtain ⟨its, rv, ⟨o, n, ho, hc, _, hd⟩, _⟩ := I.list hs
      obtain ⟨as, hr⟩ := Dp.readsAll I ds _ its ha rv
      exact ⟨_, Reads.list ho hc hd hr⟩
  | .tuple ds, _, _, h, r => by
    cases h with
    | tup hs ha =>
      cases r
      obtain ⟨its, rv, ⟨o, ho, hc, n, hd⟩, _⟩ := I.tuple hs
      obtain ⟨as, hr⟩ := Dp.readsAll I ds _ its ha rv
      exact ⟨_, Reads.tuple ho hc hd hr⟩
  | .dict _, _, _, h, _ => by cases h
theorem Dp.readsAll (I : Inv X pins σ H s) : ∀ (ds : List PyData) (vs : List V) (us : List Value), DpAll X.K H vs ds → Vals vs us → ∃ as, ReadsAll s.heap us ds as
  | [], _, _, h, r => by
    cases h
    cases r
    exact ⟨_, ReadsAll.nil⟩
  | d :: ds, _, _, h, r => by
    cases h with
    | cons h1 h2 =>
      cases r with
      | cons r1 r2 =>
        obtain ⟨as, q1⟩ := Dp.reads I d _ _ h1 r1
        obtain ⟨bs, q2⟩ := Dp.readsAll I ds _ _ h2 r2
        exact ⟨_, ReadsAll.cons q1 q2⟩
end
end
section
variable {X : Cx}
def rEqD (K : PySem.W.Frag) : R2 := fun x y H Q => ∃ d e, Dp K H x d ∧ Dp K H y e ∧ SeqAt.shaped d = true ∧ SeqAt.shaped e = true ∧ Q (.bl (PyData.eqv d e)) H
def rNeD (K : PySem.W.Frag) : R2 := fun x y H Q => ∃ d e, Dp K H x d ∧ Dp K H y e ∧ SeqAt.shaped d = true ∧ SeqAt.shaped e = true ∧ Q (.bl (!PyData.eqv d e)) H
theorem op_eqD (hu : X.A.units + 64 < cLine) : OpR X (compareOp .Eq) (rEqD X.K) := by
  intro pins s σ H x y v u Q I rx ry h
  obtain ⟨d, e, hd, he, sd, se, q⟩ := h
  obtain ⟨as, r1⟩ := Dp.reads I d x v hd rx
  obtain ⟨bs, r2⟩ := Dp.reads I e y u he ry
  exact SeqAt.compareEq_shaped r1 r2 sd se hu ⟨.bl _, H, I, rfl, q⟩
theorem op_neD (hu : X.A.units + 64 < cLine) : OpR X (compareOp .NotEq) (rNeD X.K) := by
  intro pins s σ H x y v u Q I rx ry h
  obtain ⟨d, e, hd, he, sd, se, q⟩ := h
  obtain ⟨as, r1⟩ := Dp.reads I d x v hd rx
  obtain ⟨bs, r2⟩ := Dp.reads I e y u he ry
  exact SeqAt.compareNe_shaped r1 r2 sd se hu ⟨.bl _, H, I, rfl, q⟩
end
end L2
namespace L2
open PySem PySem.Spec PyProof.Rows
abbrev CellAt (h : Heap) (c : Addr) (v : Option Value) : Prop := h.IsCell c v
def relS (scope sc : Scope) : Scope :=
  { scope with names := scope.names.map fun (n, k) => if (k == .free && sc.kind == .function && sc.names.lookup n == some .cell) then (n, .cell) else (n, k) }
def cloFrom (cells : List (Str × Addr)) : List (Str × NameKind) → List (Str × Addr) → List (Str × Addr)
  | [], acc => acc
  | (n, k) :: r, acc => if k == .free then cloFrom cells r ((n, (cells.lookup n).getD 0) :: acc) else cloFrom cells r acc
theorem closure_loop (env : Env) (f : Str × NameKind → List (Str × Addr) → Sem (ForInStep (List (Str × Addr))))
    (hf : ∀ n k c, f (n, k) c = if k == .free then (do let a ← cellOf env n; pure (.yield ((n, a) :: c))) else pure (.yield c)) :
    ∀ (names : List (Str × NameKind)) (acc : List (Str × Addr)), (∀ y ∈ names, y.2 = .free → ∃ c, env.cells.lookup y.1 = some c) → forIn names acc f = pure (cloFrom env.cells names acc)
  | [], acc, _ => by rw [List.forIn_nil]; rfl
  | (n, k) :: r, acc, h => by
    rw [List.forIn_cons, hf]
    have ih := fun acc => closure_loop env f hf r acc fun y hy => h y (List.mem_cons_of_mem _ hy)
    unfold cloFrom
    by_cases hk : (k == NameKind.free) = true
    · rw [if_pos hk, if_pos hk]
      obtain ⟨c, hc⟩ := h (n, k) List.mem_cons_self (by simpa using hk)
      have e : cellOf env n = pure c := by unfold cellOf; rw [hc]
      rw [e]
      have e2 : (env.cells.lookup n).getD 0 = c := by rw [hc]; rfl
      rw [e2]
      exact ih _
    · rw [if_neg hk, if_neg hk]
      exact ih _
theorem closure_ok {scope : Scope} {env : Env} (h : ∀ y ∈ scope.names, y.2 = .free → ∃ c, env.cells.lookup y.1 = some c) : closureFor scope env = pure (cloFrom env.cells scope.names []) := by
  simp only [closureFor]
  rw [closure_loop env _ (fun n k c => rfl) scope.names [] h]
  rfl
theorem mem_lookup {α : Type} : ∀ {l : List (Str × α)} {n : Str} {c : α}, (n, c) ∈ l → ∃ c', l.lookup n = some c'
  | (k, v) :: r, n, c, h => by
    rw [List.lookup_cons]
    cases hb : n == k with
    | true => exact ⟨_, rfl⟩
    | false =>
      rcases List.mem_cons.mp h with e | h
      · cases e; simp at hb
      · exact mem_lookup h
theorem cloFrom_mem {cells : List (Str × Addr)} : ∀ {names : List (Str × NameKind)} {acc : List (Str × Addr)} {n : Str} {c : Addr}, (n, c) ∈ cloFrom cells names acc → (n, c) ∈ acc ∨ ((n, .free) ∈ names ∧ c = (cells.lookup n).getD 0)
  | [], _, _, _, h => .inl h
  | (m, k) :: r, acc, n, c, h => by
    unfold cloFrom at h
    split at h
    · rename_i hk
      have hk : k = .free := by simpa using hk
      rcases cloFrom_mem h with h | ⟨h1, h2⟩
      · rcases List.mem_cons.mp h with e | h
        · cases e; exact .inr ⟨hk ▸ List.mem_cons_self, rfl⟩
        · exact .inl h
      · exact .inr ⟨List.mem_cons_of_mem _ h1, h2⟩
    · rcases cloFrom_mem h with h | ⟨h1, h2⟩
      · exact .inl h
      · exact .inr ⟨List.mem_cons_of_mem _ h1, h2⟩
theorem cloFrom_acc {cells : List (Str × Addr)} : ∀ {names : List (Str × NameKind)} {acc : List (Str × Addr)} {p : Str × Addr}, p ∈ acc → p ∈ cloFrom cells names acc
  | [], _, _, h => h
  | (m, k) :: r, acc, p, h => by
    unfold cloFrom
    split
    · exact cloFrom_acc (List.mem_cons_of_mem _ h)
    · exact cloFrom_acc h
theorem cloFrom_has {cells : List (Str × Addr)} : ∀ {names : List (Str × NameKind)} {acc : List (Str × Addr)} {n : Str}, (n, .free) ∈ names → (n, (cells.lookup n).getD 0) ∈ cloFrom cells names acc
  | (m, k) :: r, acc, n, h => by
    unfold cloFrom
    rcases List.mem_cons.mp h with e | h
    · cases e
      exact cloFrom_acc List.mem_cons_self
    · split
      · exact cloFrom_has h
      · exact cloFrom_has h
theorem cells_mem : ∀ {names : List (Str × NameKind)} {h : Heap} {acc : List (Str × Addr)} {x : Str} {c : Addr}, (x, c) ∈ cellsFrom h.objs.size names acc →
    (x, c) ∈ acc ∨ ((x, .cell) ∈ names ∧ h.objs.size ≤ c ∧ CellAt (pushCells h names) c none)
  | [], _, _, _, _, h => .inl h
  | (n, k) :: r, h, acc, x, c, hm => by
    unfold cellsFrom at hm
    unfold pushCells
    split at hm
    · rename_i hk
      rw [if_pos hk]
      have hk : k = .cell := by simpa using hk
      rw [← Heap.size_push h { cls := .type "cell", data := .cell none }] at hm
      rcases cells_mem hm with hm | ⟨h1, h2, h3⟩
      · rcases List.mem_cons.mp hm with e | hm
        · cases e
          exact .inr ⟨hk ▸ List.mem_cons_self, Nat.le_refl _, _, pushCells_keeps r _ _ _ (Heap.get?_push_size _ rfl), rfl⟩
        · exact .inl hm
      · rw [Heap.size_push] at h2
        exact .inr ⟨List.mem_cons_of_mem _ h1, Nat.le_of_succ_le h2, h3⟩
    · rename_i hk
      rw [if_neg hk]
      rcases cells_mem hm with hm | ⟨h1, h2, h3⟩
      · exact .inl hm
      · exact .inr ⟨List.mem_cons_of_mem _ h1, h2, h3⟩
theorem cells_acc : ∀ {names : List (Str × NameKind)} {n : Nat} {acc : List (Str × Addr)} {p : Str × Addr}, p ∈ acc → p ∈ cellsFrom n names acc
  | [], _, _, _, h => h
  | (m, k) :: r, n, acc, p, h => by
    unfold cellsFrom
    split
    · exact cells_acc (List.mem_cons_of_mem _ h)
    · exact cells_acc h
theorem cells_has : ∀ {names : List (Str × NameKind)} {n : Nat} {acc : List (Str × Addr)} {x : Str}, (x, .cell) ∈ names → ∃ c, (x, c) ∈ cellsFrom n names acc
  | (m, k) :: r, n, acc, x, h => by
    unfold cellsFrom
    rcases List.mem_cons.mp h with e | h
    · cases e
      exact ⟨n, cells_acc List.mem_cons_self⟩
    · split
      · exact cells_has h
      · exact cells_has h
theorem cells_inj : ∀ {names : List (Str × NameKind)} {h : Heap} {acc : List (Str × Addr)} {x y : Str} {c : Addr}, (∀ p ∈ acc, p.2 < h.objs.size) → (∀ x y c, (x, c) ∈ acc → (y, c) ∈ acc → x = y) →
    (x, c) ∈ cellsFrom h.objs.size names acc → (y, c) ∈ cellsFrom h.objs.size names acc → x = y
  | [], _, _, _, _, _, _, hi, h1, h2 => hi _ _ _ h1 h2
  | (n, k) :: r, h, acc, x, y, c, hl, hi, h1, h2 => by
    unfold cellsFrom at h1 h2
    split at h1
    · rename_i hk
      rw [if_pos hk] at h2
      rw [← Heap.size_push h { cls := .type "cell", data := .cell none }] at h1 h2
      refine cells_inj (h := h.push _) (fun p hp => ?_) (fun x y c a b => ?_) h1 h2
      · rw [Heap.size_push]
        rcases List.mem_cons.mp hp with rfl | hp
        · exact Nat.lt_succ_self _
        · exact Nat.lt_succ_of_lt (hl p hp)
      · rcases List.mem_cons.mp a with e | a <;> rcases List.mem_cons.mp b with e' | b
        · cases e; cases e'; rfl
        · cases e; exact absurd (hl _ b) (Nat.lt_irrefl _)
        · cases e'; exact absurd (hl _ a) (Nat.lt_irrefl _)
        · exact hi _ _ _ a b
    · rename_i hk
      rw [if_neg hk] at h2
      exact cells_inj hl hi h1 h2
theorem newEnv_comp {M : Model} {A : Around} {E : Value → Shared → Prop} {s : Shared} {scope : Scope} {globals : Addr} {closure : List (Str × Addr)} {qual : Str} {func : Option Addr} {code : Value} {around : Env} {builtins : Addr} {Q : Env → Shared → Prop}
    (h : Q (newEnv scope s.heap.objs.size globals (cellsFrom (s.heap.objs.size + 1) scope.names closure) qual func code (some around) builtins)
      { s with heap := pushCells (s.heap.push { cls := .type "dict", data := .dict #[] }) scope.names }) :
    wpAny M A (newFunctionEnv scope globals closure [] qual func code (some around) builtins) Q E s := by
  simp only [newFunctionEnv, Option.isSome_some, if_true]
  refine wpAny_bind (wpAny_alloc ?_)
  refine wpAny_bind (wpAny_layCells _ (fun n k c => rfl) scope.names closure _ _ ?_)
  rw [show ({ s with heap := s.heap.push { cls := .type "dict", data := .dict #[] } } : Shared).heap.objs.size = s.heap.objs.size + 1 from Heap.size_push ..]
  rw [List.forIn_nil]
  exact wpAny_bind (wpAny_pure (wpAny_pure h))
theorem lookup_relS {sc : Scope} : ∀ {names : List (Str × NameKind)} {x : Str} {k : NameKind},
    (names.map fun (n, k) => if (k == NameKind.free && sc.kind == .function && sc.names.lookup n == some .cell) then (n, NameKind.cell) else (n, k)).lookup x = some k →
    ∃ k', names.lookup x = some k' ∧ (k = k' ∨ (k' = .free ∧ k = .cell))
  | [], _, _, h => by simp at h
  | (n, k₀) :: r, x, k, h => by
    have ih := @lookup_relS sc r x k
    have h' : List.lookup x ((if (k₀ == NameKind.free && sc.kind == .function && sc.names.lookup n == some .cell) = true then (n, NameKind.cell) else (n, k₀)) :: (r.map _)) = some k := h
    cases hx : x == n with
    | true =>
      simp only [List.lookup_cons, hx]
      by_cases hc : (k₀ == NameKind.free && sc.kind == .function && sc.names.lookup n == some .cell) = true
      · rw [if_pos hc] at h'
        simp only [List.lookup_cons, hx] at h'
        cases h'
        simp only [Bool.and_eq_true, beq_iff_eq] at hc
        exact ⟨k₀, rfl, .inr ⟨hc.1.1, rfl⟩⟩
      · rw [if_neg hc] at h'
        simp only [List.lookup_cons, hx] at h'
        cases h'
        exact ⟨_, rfl, .inl rfl⟩
    | false =>
      simp only [List.lookup_cons, hx]
      by_cases hc : (k₀ == NameKind.free && sc.kind == .function && sc.names.lookup n == some .cell) = true
      · rw [if_pos hc] at h'
        simp only [List.lookup_cons, hx] at h'
        exact ih h'
      · rw [if_neg hc] at h'
        simp only [List.lookup_cons, hx] at h'
        exact ih h'
structure BlkOk (N : List Str) (sc scope : Scope) (own : List (Str × Nat)) : Prop where
  kind : scope.kind = .function
  uniq : ∀ y ∈ scope.names, scope.names.lookup y.1 = some y.2
  ix : ∀ p ∈ own, N[p.2]? = some p.1
  free : ∀ y ∈ scope.names, y.2 = .free → sc.names.lookup y.1 = some .cell ∨ sc.names.lookup y.1 = some .free
  own : ∀ y ∈ scope.names, y.2 = .local ∨ y.2 = .cell → y.1 ∈ own.map (·.1) ∨ y.1 ∉ N
def wipe (σ : St) : List Nat → St
  | [] => σ
  | v :: vs => (wipe σ vs).set v none
theorem wipe_length (σ : St) : ∀ vs : List Nat, (wipe σ vs).length = σ.length
  | [] => rfl
  | v :: vs => by unfold wipe; rw [List.length_set, wipe_length σ vs]
theorem wipe_some {σ : St} {i : Nat} {x : V} : ∀ {vs : List Nat}, (wipe σ vs)[i]? = some (some x) → σ[i]? = some (some x) ∧ i ∉ vs
  | [], h => ⟨h, by simp⟩
  | v :: vs, h => by
    unfold wipe at h
    by_cases hi : v = i
    · subst hi
      by_cases hv : v < (wipe σ vs).length
      · rw [List.getElem?_set_self hv] at h; cases h
      · rw [List.getElem?_eq_none (by simpa using hv)] at h; cases h
    · rw [List.getElem?_set_ne hi] at h
      obtain ⟨h1, h2⟩ := wipe_some h
      exact ⟨h1, by simp only [List.mem_cons, not_or]; exact ⟨fun e => hi e.symm, h2⟩⟩
abbrev Cx.blk (X : Cx) (s : Shared) (H : Hp) (scope : Scope) (cenv : Env) (fp : List Addr) : Cx := { X with s_0 := s, H_0 := H, env := cenv, outer := X.stack, ex := fp, fn := fun x => scope.names.lookup x == some .cell, pn := [], xe := fun _ _ => False }
section
variable {X : Cx} {pins : List (Addr × Obj)} {σ : St} {H : Hp} {s : Shared}
theorem block_start {scope : Scope} {own : List (Str × Nat)} {fp : List Addr} (I : Inv X pins σ H s) (ok : BlkOk X.N X.env.scope scope own) (hN : X.N.Nodup) (hfp : ∀ b ∈ fp, FpOk X pins H b ∧ b < s.heap.objs.size) :
    Inv (X.blk s H scope (compEnvC scope (cellsFrom (s.heap.objs.size + 1) scope.names (cloFrom X.env.cells scope.names [])) s.heap.objs.size X.env) fp) [] (wipe σ (own.map (·.2))) H { s with heap := pushCells (s.heap.push { cls := .type "dict", data := .dict #[] }) scope.names } := by
  have hfree : ∀ y ∈ scope.names, y.2 = .free → ∃ c, X.env.cells.lookup y.1 = some c := fun y hy e => by
    rcases ok.free y hy e with k | k
    · exact I.ok.has _ (.inl k)
    · exact I.ok.has _ (.inr k)
  generalize hcenv : compEnvC scope (cellsFrom (s.heap.objs.size + 1) scope.names (cloFrom X.env.cells scope.names [])) s.heap.objs.size X.env = cenv
  have kp : ∀ b o, s.heap.get? b = some o → (pushCells (s.heap.push { cls := .type "dict", data := .dict #[] }) scope.names).get? b = some o := fun b o e => pushCells_keeps _ _ _ _ (Heap.get?_push_of_some _ e)
  have hL : cenv.locals = s.heap.objs.size := by rw [← hcenv]; rfl
  have hcl : cenv.cells = cellsFrom (s.heap.objs.size + 1) scope.names (cloFrom X.env.cells scope.names []) := by rw [← hcenv]; rfl
  have hsc : cenv.scope = relS scope X.env.scope := by rw [← hcenv]; rfl
  rw [← Heap.size_push s.heap { cls := .type "dict", data := .dict #[] }] at hcl
  have cm : ∀ {y c}, (y, c) ∈ cloFrom X.env.cells scope.names [] → X.env.cells.lookup y = some c ∧ c < s.heap.objs.size := fun {y c} hm => by
    rcases cloFrom_mem hm with hm | ⟨h1, rfl⟩
    · cases hm
    · obtain ⟨c, hc⟩ := hfree _ h1 rfl
      rw [hc]
      obtain ⟨w, z⟩ := I.cell _ _ hc
      exact ⟨rfl, z.lt⟩
  have mem : ∀ {y c}, cenv.cells.lookup y = some c → (X.env.cells.lookup y = some c ∧ c < s.heap.objs.size) ∨ (s.heap.objs.size + 1 ≤ c ∧ CellAt (pushCells (s.heap.push { cls := .type "dict", data := .dict #[] }) scope.names) c none) := fun {y c} e => by
    rw [hcl] at e
    rcases cells_mem (PySem.mem_of_lookup e) with hm | ⟨_, h2, h3⟩
    · exact .inl (cm hm)
    · rw [Heap.size_push] at h2; exact .inr ⟨h2, h3⟩
  have look : ∀ {y}, scope.names.lookup y = some .free → ∃ c, cenv.cells.lookup y = some c ∧ X.env.cells.lookup y = some c := fun {y} hl => by
    have hy : (y, NameKind.free) ∈ scope.names := PySem.mem_of_lookup hl
    obtain ⟨c', e'⟩ := mem_lookup (cells_acc (names := scope.names) (n := (s.heap.push { cls := .type "dict", data := .dict #[] }).objs.size) (cloFrom_has (cells := X.env.cells) (acc := []) hy))
    rw [← hcl] at e'
    refine ⟨c', e', ?_⟩
    rw [hcl] at e'
    rcases cells_mem (PySem.mem_of_lookup e') with hm | ⟨h1, _, _⟩
    · exact (cm hm).1
    · have := ok.uniq _ h1
      rw [hl] at this; cases this
  have okB : (X.blk s H scope cenv fp).Ok := by
    refine ⟨I.ok.mod, by show cenv.scope.kind = _; rw [hsc]; exact ok.kind, by show cenv.globals = _; rw [← hcenv]; exact I.ok.glob, by show cenv.builtins = _; rw [← hcenv]; exact I.ok.blt, by show s.heap.objs.size ≤ cenv.locals; rw [hL]; exact Nat.le_refl _,
      fun y z c e1 e2 => ?_, fun y hy => ?_, fun y c z e => ?_, I.ok.hd, I.ok.frames, .inl rfl, fun b hb => ⟨?_, fun y c e z => ?_⟩, I.bs, Nat.le_trans I.ok.bsz I.sz, fun b o e hb => ?_, fun b hb z => ?_, I.stack, I.stkFree⟩
    · have e1 : cenv.cells.lookup y = some c := e1
      have e2 : cenv.cells.lookup z = some c := e2
      rw [hcl] at e1 e2
      refine cells_inj (fun p hp => ?_) (fun y z c a b => I.ok.inj y z c (cm a).1 (cm b).1) (PySem.mem_of_lookup e1) (PySem.mem_of_lookup e2)
      rw [Heap.size_push]
      exact Nat.lt_succ_of_lt (cm (y := p.1) (c := p.2) hp).2
    · show ∃ c, cenv.cells.lookup y = some c
      have key : ∀ k, cenv.kindOf y = some k → (k = .cell ∨ k = .free) → ∃ c, cenv.cells.lookup y = some c := fun k hk hk' => by
        unfold Env.kindOf at hk
        rw [hsc] at hk
        obtain ⟨k', e, r⟩ := lookup_relS hk
        have : k' = .cell ∨ k' = .free := by
          rcases r with rfl | ⟨rfl, _⟩
          · exact hk'
          · exact .inr rfl
        rcases this with rfl | rfl
        · obtain ⟨c, hm⟩ := cells_has (n := (s.heap.push { cls := .type "dict", data := .dict #[] }).objs.size) (acc := cloFrom X.env.cells scope.names []) (PySem.mem_of_lookup e)
          obtain ⟨c', e'⟩ := mem_lookup hm
          exact ⟨c', by rw [hcl]; exact e'⟩
        · obtain ⟨c, h1, _⟩ := look e
          exact ⟨c, h1⟩
      rcases hy with hy | hy
      · exact key _ hy (.inl rfl)
      · exact key _ hy (.inr rfl)
    · have z : (scope.names.lookup y == some NameKind.cell) = true := z
      have z : scope.names.lookup y = some .cell := by simpa using z
      have e : cenv.cells.lookup y = some c := e
      rw [hcl] at e
      rcases cells_mem (PySem.mem_of_lookup e) with hm | ⟨_, h2, _⟩
      · rcases cloFrom_mem hm with hm | ⟨h1, _⟩
        · cases hm
        · have q := ok.uniq _ h1
          rw [z] at q; cases q
      · rw [Heap.size_push] at h2
        exact Nat.le_of_succ_le h2
    · show b ≠ cenv.locals
      rw [hL]; exact Nat.ne_of_lt (hfp b hb).2
    · have e : cenv.cells.lookup y = some c := e
      rcases mem e with ⟨h1, _⟩ | ⟨h1, _⟩
      · exact (hfp b hb).1.2.2.2.2.1 y c h1 z
      · have h2 : s.heap.objs.size + 1 ≤ b := by rw [← z]; exact h1
        exact absurd (Nat.lt_of_lt_of_le (hfp b hb).2 (Nat.le_of_succ_le h2)) (Nat.lt_irrefl _)
    · rcases (hfp b hb).1.2.2.2.1 with z | z
      · exact I.ok.noex b o e z
      · exact absurd (Nat.lt_of_lt_of_le (Heap.lt_size e) (Nat.le_trans I.ok.bsz z)) (Nat.lt_irrefl _)
    · rcases List.mem_cons.mp (I.stkSub b z) with z | z
      · exact (hfp b hb).1.2.1 z
      · exact (hfp b hb).1.2.2.1 z
  refine ⟨okB, rfl, I.bare, Un.kept kp, ⟨fun _ => none, ?_, fun i y av e1 e2 e3 => ?_⟩, fun y c e => ?_, ?_, fun y c e => ?_, fun p hp => ?_, I.hok.kept kp, by rw [wipe_length]; exact I.len⟩
  · show Heap.Ns _ cenv.locals _
    rw [hL]
    exact Heap.Ns.keeps (Heap.Ns.new ..) fun b o e => pushCells_keeps _ _ _ _ e
  · obtain ⟨e2, hne⟩ := wipe_some e2
    have hfr : scope.names.lookup y = some .free ∧ (cenv.kindOf y = some .cell ∨ cenv.kindOf y = some .free) := by
      have key : ∀ k, cenv.scope.names.lookup y = some k → k = .local ∨ k = .cell ∨ k = .free → scope.names.lookup y = some .free ∧ (cenv.kindOf y = some .cell ∨ cenv.kindOf y = some .free) := fun k hk hk' => by
        have hk0 := hk
        rw [hsc] at hk
        obtain ⟨k', e, r⟩ := lookup_relS hk
        have no : ¬ (k' = .local ∨ k' = .cell) := fun hh => by
          rcases ok.own _ (PySem.mem_of_lookup e) hh with e' | e'
          · obtain ⟨p, hp, hpy⟩ := List.mem_map.mp e'
            have e3 := ok.ix p hp
            have : p.1 = y := hpy
            rw [this] at e3
            exact hne (List.mem_map.mpr ⟨p, hp, nodup_ix hN e3 e1⟩)
          · exact e' (List.mem_of_getElem? e1)
        rcases r with rfl | ⟨rfl, rfl⟩
        · rcases hk' with rfl | rfl | rfl
          · exact absurd (.inl rfl) no
          · exact absurd (.inr rfl) no
          · exact ⟨e, .inr hk0⟩
        · exact ⟨e, .inl hk0⟩
      have e3 : Vis cenv.scope y := e3
      rcases e3 with e3 | e3 | e3
      · exact key _ e3 (.inl rfl)
      · exact key _ e3 (.inr (.inl rfl))
      · exact key _ e3 (.inr (.inr rfl))
    obtain ⟨m, hn, hl⟩ := I.loc
    have hvis : Vis X.env.scope y := (ok.free _ (PySem.mem_of_lookup hfr.1) rfl).elim (fun k => .inr (.inl k)) (fun k => .inr (.inr k))
    obtain ⟨w, r, q⟩ := hl i y av e1 e2 hvis
    refine ⟨w, r, .inr ⟨hfr.2, ?_⟩⟩
    obtain ⟨c, h1, h2⟩ := look hfr.1
    rcases q with ⟨k, _⟩ | ⟨_, c', e', z⟩
    · have k : X.env.scope.names.lookup y = some .local := k
      rcases ok.free _ (PySem.mem_of_lookup hfr.1) rfl with k' | k' <;> rw [show X.env.scope.names.lookup y = _ from k'] at k <;> cases k
    · rw [h2] at e'; cases e'
      exact ⟨c, h1, z.keeps kp⟩
  · have e : cenv.cells.lookup y = some c := e
    rcases mem e with ⟨h1, _⟩ | ⟨_, z⟩
    · obtain ⟨w, z⟩ := I.cell y c h1
      exact ⟨w, z.keeps kp⟩
    · exact ⟨_, z⟩
  · show H cenv.locals = none
    rw [hL]; exact I.hok.fresh (Nat.le_refl _)
  · have e : cenv.cells.lookup y = some c := e
    rcases mem e with ⟨h1, _⟩ | ⟨h1, _⟩
    · exact I.freeC y c h1
    · exact I.hok.fresh (Nat.le_of_succ_le h1)
  · exact absurd (show p ∈ ([] : List (Addr × Obj)) ++ [] from hp) (by simp)
theorem app_ok {E : Value → Shared → Prop} {D : Addr} {xs : List V} {y : V} {v : Value} {Q : Value → Shared → Prop} (I : Inv X pins σ H s) (hD : H D = some (.lst xs)) (hz : xs.length < sizeLine) (r : RelV y v)
    (h : ∀ s', Inv X pins σ (upd H D (.lst (xs ++ [y]))) s' → Q .none s') : wpAny (model X.prog X.w) X.A (call (.builtin "list.append") [.ref D, v]) Q E s := by
  obtain ⟨hz', its, n, ri, e⟩ := I.hok D _ hD
  have hl := ri.length
  refine append_at (hsz := by rw [List.size_toArray]; omega) e fun h' sb ho' => ?_
  refine h { s with heap := h' } (I.write (t' := s.toks) (by rw [hD]; trivial) (.inl rfl) (fun b u hb q => (sb.2 b hb).trans q) ⟨_, ho'⟩ ⟨by rw [List.length_append]; exact hz, its ++ [v], n + 1, ri.append (.cons r .nil), ?_⟩)
  rw [ho']
  simp
def PTs (X : Cx) (ifs : List Expr) (t : TT) : Prop :=
  ∀ (pins : List (Addr × Obj)) (s : Shared) (σ : St) (H : Hp) (Q : Bool → Hp → Prop), Inv X pins σ H s → t σ H Q →
    wpAny (model X.prog X.w) X.A (forIn ifs true fun c r => if r = true then do let ok ← isTrue c X.env (eval c X.env); pure (ForInStep.yield ok) else pure (ForInStep.yield r)) (TP X pins σ Q) X.xe s
theorem pts_one {c : Expr} {t : TT} (h : PT X c t) : PTs X [c] t := fun pins s σ H Q I hw => wpAny_tests_one (h pins s σ H Q I hw)
end
theorem thnF {α : Type} {t : Sem α} {Q Q' : α → Shared → Prop} {M : Model} {A : Around} {E : Value → Shared → Prop} {s : Shared} (h : wpAny M A t Q (fun _ _ => False) s) (hQ : ∀ a s, Q a s → Q' a s) : wpAny M A t Q' E s := wpAny_mono h hQ fun _ _ z => False.elim z
theorem compLoop_any {prog : Program} {w : World} {A : Around} {R : Result → Shared → Prop} {s : Shared} {elt target iter : Expr} {ifs : List Expr} {scope : Scope} {pos : Pos} {it acc : Value} {env : Env} (I : Nat → Shared → Prop)
    (turn : ∀ n s, I n s → wpAny (model prog w) A (pyNext it) (fun r s₁ => match r with
      | none => R (.ok .next) s₁
      | some v => wpAny (model prog w) A (letOwnedTupleGo target it v) (fun _ s₁' => wpAny (model prog w) A (assign target env v) (fun _ s₂ =>
          wpAny (model prog w) A (forIn ifs true fun c r => if r = true then do let ok ← isTrue c env (eval c env); pure (ForInStep.yield ok) else pure (ForInStep.yield r)) (fun ok s₃ =>
            if ok = true then wpAny (model prog w) A (eval elt env) (fun x s₄ =>
              wpAny (model prog w) A (call (.builtin "list.append") [acc, x]) (fun _ s₅ => ∃ m, m < n ∧ I m s₅) (notedBy (model prog w) A env fun e s' => R (.error e) s') s₄) (notedBy (model prog w) A env fun e s' => R (.error e) s') s₃
            else ∃ m, m < n ∧ I m s₃) (notedBy (model prog w) A env fun e s' => R (.error e) s') s₂) (notedBy (model prog w) A env fun e s' => R (.error e) s') s₁') (notedBy (model prog w) A env fun e s' => R (.error e) s') s₁) (notedBy (model prog w) A env fun e s' => R (.error e) s') s)
    (n : Nat) (h : I n s) :
    codeAny (model prog w) A (.compLoop (.ListComp elt [⟨target, iter, ifs, 0⟩] scope pos) 0 it acc env) R s := by
  refine codeAny_loop rfl I (fun n s hI => ?_) n h
  show wpAny _ A ((compTurn (.ListComp elt [⟨target, iter, ifs, 0⟩] scope pos) 0 it acc env).onRaise (fun x => do noteFrame x env; theTreesLotGoes x)) _ _ s
  refine wpAny_noted ?_
  rw [compTurn_list]
  refine wpAny_bind (wpAny_standAt (wpAny_bind (wpAny_mono (turn n s hI) (fun r s₁ h₁ => ?_) fun _ _ h' => h')))
  cases r with
  | none => exact wpAny_pure h₁
  | some v =>
    refine wpAny_bind (wpAny_mono h₁ (fun _ s₁' h₁' => ?_) fun _ _ h' => h')
    refine wpAny_bind (wpAny_mono h₁' (fun _ s₂ h₂ => wpAny_bind (wpAny_mono h₂ (fun ok s₃ h₃ => ?_) fun _ _ h' => h')) fun _ _ h' => h')
    cases ok with
    | false => exact wpAny_pure ⟨rfl, h₃⟩
    | true =>
      exact wpAny_bind (wpAny_bind (wpAny_mono h₃ (fun x s₄ h₄ => wpAny_bind (wpAny_mono h₄ (fun _ s₅ h₅ => wpAny_pure (wpAny_pure ⟨rfl, h₅⟩)) fun _ _ h' => h')) fun _ _ h' => h'))
section
variable {X : Cx}
def tLc (wi : TI) (g : TG) (tt : TT) (te : TE) (vs : List Nat) : TE := fun σ H Q => wi σ H fun J H1 => ∀ D, H1 D = none → ∃ W : Nat → Nat → Hp → Prop, (∃ m, W 0 m (upd H1 D (.lst []))) ∧ ∀ i m H, W i m H →
  (J.stop i H ∧ Q (.ref D) H) ∨ (J.go i H ∧ ∃ Nx : Hp → Prop, (∀ H', Nx H' → ∃ m', m' < m ∧ W (i + 1) m' H') ∧ ∀ x H', J.yld i H x H' → g x (wipe σ vs) H' fun σ2 H2 => wipe σ2 vs = wipe σ vs ∧ tt σ2 H2 fun b H3 =>
    if b = true then te σ2 H3 fun y H4 => ∃ acc, H4 D = some (.lst acc) ∧ acc.length < sizeLine ∧ Nx (upd H4 D (.lst (acc ++ [y]))) else Nx H3)
theorem lc_core {pins : List (Addr × Obj)} {s : Shared} {σ : St} {H : Hp} {Q : VK} {elt tg iter : Expr} {ifs : List Expr} {scope : Scope} {own : List (Str × Nat)} {pos pos' : Pos} {wi : TI} {g : TG} {tt : TT} {te : TE} {use : Option (Value → Sem Unit)} {Qf : Value → Shared → Prop}
    (hc : X.calm = true) (hN : X.N.Nodup) (I : Inv X pins σ H s) (hi : PI X tg iter wi) (ok : BlkOk X.N X.env.scope scope own)
    (hg : ∀ (s : Shared) (H : Hp) (C : Addr) (cl : List (Str × Addr)) (fp : List Addr), PG (X.blk s H scope (compEnvC scope cl C X.env) fp) tg g) (ht : ∀ (s : Shared) (H : Hp) (C : Addr) (cl : List (Str × Addr)) (fp : List Addr), PTs (X.blk s H scope (compEnvC scope cl C X.env) fp) ifs tt)
    (he : ∀ (s : Shared) (H : Hp) (C : Addr) (cl : List (Str × Addr)) (fp : List Addr), PE (X.blk s H scope (compEnvC scope cl C X.env) fp) elt te) (hs : ∀ x, foldedSetIterable iter X.env x = pure x)
    (h : tLc wi g tt te (own.map (·.2)) σ H Q)
    (hRR : ∀ D C s' m H', Inv X pins σ H' s' → Q (.ref D) H' → s'.heap.Ns C m → FpOk X pins H' C → compPost (model X.prog X.w) X.A X.xe use Qf (.ref D) C (.ok .next) s') :
    wpAny (model X.prog X.w) X.A (comprehension (.ListComp elt [⟨tg, iter, ifs, 0⟩] scope pos) scope X.env pos' (newList []) false (eval iter X.env) use) Qf X.xe s := by
  have hfree : ∀ y ∈ scope.names, y.2 = .free → ∃ c, X.env.cells.lookup y.1 = some c := fun y hy e => by
    rcases ok.free y hy e with k | k
    · exact I.ok.has _ (.inl k)
    · exact I.ok.has _ (.inr k)
  refine wpAny_comprehension_free (use := use) rfl hs (closure_ok hfree) ok.kind (fun y hy e => by rw [ok.uniq y hy, e])
    (thn (hi pins s σ H _ I h) fun xv s1 hx => thn hx fun itv s2 h2 => ?_)
  obtain ⟨it, fp, tn, J, H2, e, I2, T, st2, f2, q⟩ := h2
  subst e
  refine wpAny_newObj_type (newEnv_comp ?_) (by show 0 ≤ sizeLine; decide)
  generalize hD : s2.heap.objs.size = D
  have hDn : H2 D = none := I2.hok.fresh (Nat.le_of_eq hD)
  obtain ⟨W, ⟨m0, w0⟩, turn⟩ := q D hDn
  -- the new list
  generalize hs3 : ({ s2 with heap := s2.heap.push { cls := .type "list", data := .seq ([] : List Value).toArray } } : Shared) = s3
  have I3 : Inv X pins σ (upd H2 D (.lst [])) s3 := by
    rw [← hs3]
    refine I2.laid (t' := s2.toks) (fun b o e => Heap.get?_push_of_some _ e) (Nat.le_of_eq hD) ⟨Nat.zero_le _, [], 0, .nil, ?_⟩
    rw [← hD]
    exact Heap.get?_push_size _ rfl
  have h3 : s3.heap = s2.heap.push { cls := .type "list", data := .seq ([] : List Value).toArray } := by rw [← hs3]
  have sz : ∀ b ∈ fp, b < s2.heap.objs.size := fun b hb => by
    obtain ⟨o, e, _⟩ := T.obj _ _ st2 b hb
    exact Heap.lt_size e
  have f3 : ∀ b ∈ fp, FpOk X pins (upd H2 D (.lst [])) b ∧ b < s3.heap.objs.size := fun b hb => by
    have hlt := sz b hb
    refine ⟨⟨?_, (f2 b hb).2⟩, by rw [h3, Heap.size_push]; exact Nat.lt_succ_of_lt hlt⟩
    rw [upd_ne (by rw [← hD]; exact Nat.ne_of_lt hlt)]
    exact (f2 b hb).1
  have st3 : tn 0 s3.heap := T.keep _ _ _ st2 fun b _ o e => by rw [h3]; exact Heap.get?_push_of_some _ e
  have I4 := block_start I3 ok hN f3
  have pg := hg s3 (upd H2 D (.lst [])) s3.heap.objs.size (cellsFrom (s3.heap.objs.size + 1) scope.names (cloFrom X.env.cells scope.names [])) fp
  have pt := ht s3 (upd H2 D (.lst [])) s3.heap.objs.size (cellsFrom (s3.heap.objs.size + 1) scope.names (cloFrom X.env.cells scope.names [])) fp
  have pe := he s3 (upd H2 D (.lst [])) s3.heap.objs.size (cellsFrom (s3.heap.objs.size + 1) scope.names (cloFrom X.env.cells scope.names [])) fp
  show codeAny _ _ (.compStart (.ListComp elt [⟨tg, iter, ifs, 0⟩] scope pos) 0 (.ref it) (.ref D) (compEnvC scope (cellsFrom (s3.heap.objs.size + 1) scope.names (cloFrom X.env.cells scope.names [])) s3.heap.objs.size X.env)) (compPost (model X.prog X.w) X.A X.xe use Qf (.ref D) s3.heap.objs.size) { s3 with heap := pushCells (s3.heap.push { cls := .type "dict", data := .dict #[] }) scope.names }
  have nfp : ∀ b ∈ fp, (upd H2 D (.lst [])) b = none := fun b hb => (f3 b hb).1.1
  generalize hce : compEnvC scope (cellsFrom (s3.heap.objs.size + 1) scope.names (cloFrom X.env.cells scope.names [])) s3.heap.objs.size X.env = ce at I4 pg pt pe ⊢
  have cL : ce.locals = s3.heap.objs.size := by subst hce; rfl
  generalize hH3 : upd H2 D (.lst []) = H3 at I3 I4 pg pt pe w0 nfp f3
  generalize hs4 : ({ s3 with heap := pushCells (s3.heap.push { cls := .type "dict", data := .dict #[] }) scope.names } : Shared) = s4 at I4 ⊢
  have st4 : tn 0 s4.heap := T.keep _ _ _ st3 fun b _ o e => by rw [← hs4]; exact pushCells_keeps _ _ _ _ (Heap.get?_push_of_some _ e)
  have stat : ∀ {σ' : St} {H' : Hp} {s' : Shared}, Inv (X.blk s3 H3 scope ce fp) [] σ' H' s' → (∀ b ∈ fp, H' b = none) → ∀ b ∈ fp, FpOk (X.blk s3 H3 scope ce fp) [] H' b := fun {σ' H' s'} I' hn b hb =>
    ⟨hn b hb, (I'.ok.exf b hb).1, I'.ok.exfs b hb, .inl hb, fun x c e => (I'.ok.exf b hb).2 x c e, fun p hp => absurd (show p ∈ ([] : List (Addr × Obj)) ++ [] from hp) (by simp)⟩
  have loop : codeAny (model X.prog X.w) X.A (.compLoop (.ListComp elt [⟨tg, iter, ifs, 0⟩] scope pos) 0 (.ref it) (.ref D) ce) (compPost (model X.prog X.w) X.A X.xe use Qf (.ref D) s3.heap.objs.size) s4 := by
    refine compLoop_any (fun n s' => ∃ i H', Inv (X.blk s3 H3 scope ce fp) [] (wipe σ (own.map (·.2))) H' s' ∧ tn i s'.heap ∧ (∀ b ∈ fp, H' b = none) ∧ W i n H') ?_ m0 ⟨0, H3, I4, st4, nfp, w0⟩
    rintro n s5 ⟨i, H5, I5, st5, n5, w5⟩
    rcases turn i n H5 w5 with ⟨stop, qq⟩ | ⟨go, Nx, hNx, step⟩
    · have td := T.done (X.blk s3 H3 scope ce fp) rfl rfl rfl hc i [] s5 _ H5 (fun _ _ => False) I5 (stat I5 n5) st5 stop
      refine thnF td fun r s6 ⟨hr, I6⟩ => ?_
      subst hr
      -- back in the def's context
      have I7 : Inv X pins σ H5 s6 := I3.call' (ch := fp) I6.os I6.base I6.hok I6.bare fun b hb => ⟨(f3 b hb).1.2.2.2.1, (f3 b hb).1.2.1, (f3 b hb).1.2.2.2.2.1, (f3 b hb).1.2.2.2.2.2⟩
      have nC : H5 s3.heap.objs.size = none := by
        have z : H5 ce.locals = none := I6.free
        rw [cL] at z
        exact z
      obtain ⟨m, hn, _⟩ := I6.loc
      have hn : s6.heap.Ns ce.locals m := hn
      rw [cL] at hn
      exact hRR D s3.heap.objs.size s6 m H5 I7 qq hn (I3.fpOk (Nat.le_refl _) nC)
    · have ti := T.item (X.blk s3 H3 scope ce fp) rfl rfl rfl hc i [] s5 _ H5 (fun _ _ => False) I5 (stat I5 n5) st5 go
      refine thnF ti fun r s6 ⟨u, hr, h6⟩ => ?_
      subst hr
      refine thnF h6 fun _ s7 ⟨x, H7, I7, r7, y7, st7, n7⟩ => ?_
      have I7' := I7.pinned (stat I7 n7) (T.obj _ _ st7)
      refine thnF (pg _ s7 _ H7 x u _ I7' r7 (step x H7 y7)) fun _ s8 ⟨σ8, H8, I8, hw8, q8⟩ => ?_
      refine thnF (pt _ s8 σ8 H8 _ I8 q8) fun b s9 ⟨H9, I9, q9⟩ => ?_
      -- the turn's end
      have fin : ∀ {s' : Shared} {H' : Hp}, Inv (X.blk s3 H3 scope ce fp) ([] ++ pinsAt fp s7.heap) σ8 H' s' → Nx H' → ∃ m, m < n ∧ ∃ i H', Inv (X.blk s3 H3 scope ce fp) [] (wipe σ (own.map (·.2))) H' s' ∧ tn i s'.heap ∧ (∀ b ∈ fp, H' b = none) ∧ W i m H' := fun {s' H'} I' nx => by
        obtain ⟨m', hm, w'⟩ := hNx H' nx
        have pin' : ∀ b ∈ fp, ∀ o, s7.heap.get? b = some o → s'.heap.get? b = some o ∧ H' b = none := fun b hb o e =>
          let z := I'.pin (b, o) (List.mem_append_right _ (List.mem_append_right _ (mem_pinsAt hb e)))
          ⟨z.1, z.2.1⟩
        have hl : (wipe σ (own.map (·.2))).length = σ8.length := by rw [← hw8, wipe_length]
        refine ⟨m', hm, i + 1, H', (I'.unpinned (pins := [])).weak hl (fun j v e => ?_), T.keep _ _ _ st7 fun b hb o e => (pin' b hb o e).1, fun b hb => ?_, w'⟩
        · rw [← hw8] at e
          exact (wipe_some e).1
        · obtain ⟨o, e, _⟩ := T.obj _ _ st7 b hb
          exact (pin' b hb o e).2
      cases b with
      | false =>
        simp only [Bool.false_eq_true, if_false] at q9 ⊢
        exact fin I9 q9
      | true =>
        simp only [if_true] at q9 ⊢
        refine thnF (pe _ s9 σ8 H9 _ I9 q9) fun z s10 ⟨yv, H10, I10, r10, acc, hD10, hz10, nx⟩ => ?_
        exact app_ok (X := X.blk s3 H3 scope ce fp) I10 hD10 hz10 r10 fun s11 I11 => fin I11 nx
  exact codeAny_compStart_list loop (T.self X.A 0 _ _ _ st4 loop)
theorem pe_lc {elt tg iter : Expr} {ifs : List Expr} {scope : Scope} {own : List (Str × Nat)} {pos : Pos} {wi : TI} {g : TG} {tt : TT} {te : TE} (hc : X.calm = true) (hN : X.N.Nodup) (hi : PI X tg iter wi) (ok : BlkOk X.N X.env.scope scope own)
    (hg : ∀ (s : Shared) (H : Hp) (C : Addr) (cl : List (Str × Addr)) (fp : List Addr), PG (X.blk s H scope (compEnvC scope cl C X.env) fp) tg g) (ht : ∀ (s : Shared) (H : Hp) (C : Addr) (cl : List (Str × Addr)) (fp : List Addr), PTs (X.blk s H scope (compEnvC scope cl C X.env) fp) ifs tt)
    (he : ∀ (s : Shared) (H : Hp) (C : Addr) (cl : List (Str × Addr)) (fp : List Addr), PE (X.blk s H scope (compEnvC scope cl C X.env) fp) elt te) (hs : ∀ x, foldedSetIterable iter X.env x = pure x := by intro _; rfl) :
    PE X (.ListComp elt [⟨tg, iter, ifs, 0⟩] scope pos) (tLc wi g tt te (own.map (·.2))) := by
  intro pins s σ H Q I h
  rw [eval_ListComp]
  refine lc_core hc hN I hi ok hg ht he hs h fun D C s' m H' I' q hn f => ⟨m, hn, fun h'' sb => ?_⟩
  obtain ⟨f0, f1, f2, f3, f4, f5⟩ := f
  exact ⟨.ref D, H', I'.turned (t' := s'.toks) (fun b o hb e => (sb.2 b hb).trans e) f0 f1 f3 f4 f5, rfl, q⟩
end
def blkC (N : List Str) (sc scope : Scope) (own : List (Str × Nat)) : Bool :=
  (match scope.kind with | .function => true | _ => false) && (scope.names.all fun y => decide (scope.names.lookup y.1 = some y.2)) && (own.all fun p => decide (N[p.2]? = some p.1)) &&
    (scope.names.all fun y => match y.2 with
      | .free => (match sc.names.lookup y.1 with | some .cell => true | some .free => true | _ => false)
      | .local => decide (y.1 ∈ own.map (·.1)) || decide (y.1 ∉ N)
      | .cell => decide (y.1 ∈ own.map (·.1)) || decide (y.1 ∉ N)
      | _ => true)
theorem blkOk_by {N : List Str} {sc scope : Scope} {own : List (Str × Nat)} (h : blkC N sc scope own = true) : BlkOk N sc scope own := by
  unfold blkC at h
  simp only [Bool.and_eq_true, List.all_eq_true, decide_eq_true_eq] at h
  obtain ⟨⟨⟨h1, h2⟩, h3⟩, h4⟩ := h
  refine ⟨?_, h2, h3, fun y hy e => ?_, fun y hy e => ?_⟩
  · split at h1
    · assumption
    · cases h1
  · have q := h4 y hy
    simp only [e] at q
    split at q <;> first | exact .inl (by assumption) | exact .inr (by assumption) | cases q
  · have q := h4 y hy
    rcases e with e | e <;> (simp only [e, Bool.or_eq_true, decide_eq_true_eq] at q; exact q)
end L2
namespace L2
open PySem PySem.Spec PyProof.Rows
section
variable {prog : Program} {w : World} {A : Around} {R : Result → Shared → Prop} {s : Shared} {elt t0 i0 t1 i1 : Expr} {ifs0 ifs1 : List Expr} {scope : Scope} {pos : Pos} {it acc : Value} {env : Env}
end
section
variable {X : Cx}
end
end L2
namespace L2
open PySem PySem.Spec PyProof.Rows
section
variable {κ : Type} [DecidableEq κ]
def valV (kvs : List (κ × V)) (k : κ) : Option V := (kvs.find? fun kv => decide (kv.1 = k)).map (·.2)
def putK (kvs : List (κ × V)) (k : κ) (v : V) : List (κ × V) :=
  if (kvs.any fun kv => decide (kv.1 = k)) = true then kvs.map (fun kv => if kv.1 = k then (kv.1, v) else kv) else kvs ++ [(k, v)]
def dropK (kvs : List (κ × V)) (k : κ) : List (κ × V) := kvs.filter fun kv => decide (kv.1 ≠ k)
theorem valV_pos {p : κ × V} {r : List (κ × V)} {k : κ} (e : p.1 = k) : valV (p :: r) k = some p.2 := by simp [valV, List.find?_cons, e]
theorem valV_neg {p : κ × V} {r : List (κ × V)} {k : κ} (e : ¬ p.1 = k) : valV (p :: r) k = valV r k := by simp [valV, List.find?_cons, e]
theorem valV_any (k : κ) : ∀ kvs : List (κ × V), (kvs.any fun kv => decide (kv.1 = k)) = (valV kvs k).isSome
  | [] => rfl
  | p :: r => by
    rw [List.any_cons]
    by_cases e : p.1 = k
    · simp only [valV_pos e, decide_eq_true e, Bool.true_or, Option.isSome_some]
    · rw [valV_neg e, decide_eq_false e, Bool.false_or]; exact valV_any k r
theorem RelO.isSome_eq {o : Option V} {u : Option Value} (r : RelO o u) : o.isSome = u.isSome := by
  cases o with
  | none => cases u with
    | none => rfl
    | some _ => exact (show False from r).elim
  | some _ => cases u with
    | none => exact (show False from r).elim
    | some _ => rfl
theorem RelO.getD {o : Option V} {u : Option Value} {d : V} {d' : Value} (r : RelO o u) (rd : RelV d d') : RelV (o.getD d) (u.getD d') := by
  cases o with
  | none => cases u with
    | none => exact rd
    | some _ => exact (show False from r).elim
  | some _ => cases u with
    | none => exact (show False from r).elim
    | some _ => exact r
theorem KV.val {kvs : List (κ × V)} {vs : List (κ × Value)} (r : KV kvs vs) (k : κ) : RelO (valV kvs k) (valueAt vs k) := by
  unfold KV at r
  induction r with
  | nil => exact True.intro
  | @cons p q ps qs h t ih =>
    obtain ⟨h1, h2⟩ := h
    by_cases e : p.1 = k
    · have e' : q.1 = k := h1.symm.trans e
      have b : valueAt (q :: qs) k = some q.2 := by simp [valueAt, List.find?_cons, e']
      rw [valV_pos e, b]; exact h2
    · have e' : ¬ q.1 = k := fun z => e (h1.trans z)
      have b : valueAt (q :: qs) k = valueAt qs k := by simp [valueAt, List.find?_cons, e']
      rw [valV_neg e, b]; exact ih
theorem KV.any {kvs : List (κ × V)} {vs : List (κ × Value)} (r : KV kvs vs) (k : κ) : (kvs.any fun kv => decide (kv.1 = k)) = vs.any fun kv => decide (kv.1 = k) := by
  unfold KV at r
  induction r with
  | nil => rfl
  | cons h t ih => rw [List.any_cons, List.any_cons, ih, h.1]
theorem KV.repl {kvs : List (κ × V)} {vs : List (κ × Value)} (r : KV kvs vs) (k : κ) {y : V} {u : Value} (ry : RelV y u) :
    KV (kvs.map fun kv => if kv.1 = k then (kv.1, y) else kv) (vs.map fun kv => if kv.1 = k then (kv.1, u) else kv) := by
  unfold KV at r ⊢
  induction r with
  | nil => exact .nil
  | @cons p q ps qs h t ih =>
    rw [List.map_cons, List.map_cons]
    refine .cons ?_ ih
    obtain ⟨h1, h2⟩ := h
    by_cases e : p.1 = k
    · rw [if_pos e, if_pos (h1.symm.trans e)]; exact ⟨h1, ry⟩
    · rw [if_neg e, if_neg (fun z => e (h1.trans z))]; exact ⟨h1, h2⟩
theorem KV.put {kvs : List (κ × V)} {vs : List (κ × Value)} (r : KV kvs vs) (k : κ) {y : V} {u : Value} (ry : RelV y u) : KV (putK kvs k y) (stored vs k u) := by
  unfold putK stored
  rw [r.any k]
  by_cases e : (vs.any fun kv => decide (kv.1 = k)) = true
  · rw [if_pos e, if_pos e]; exact r.repl k ry
  · rw [if_neg e, if_neg e]; exact Paired.snoc r ⟨rfl, ry⟩
theorem KV.drop {kvs : List (κ × V)} {vs : List (κ × Value)} (r : KV kvs vs) (k : κ) : KV (dropK kvs k) (without vs k) := by
  unfold KV at r ⊢
  unfold dropK without
  induction r with
  | nil => exact .nil
  | @cons p q ps qs h t ih =>
    obtain ⟨h1, h2⟩ := h
    rw [List.filter_cons, List.filter_cons]
    by_cases e : p.1 = k
    · have a : ¬ decide (p.1 ≠ k) = true := by simp [e]
      have b : ¬ decide (q.1 ≠ k) = true := by simp [h1.symm.trans e]
      rw [if_neg a, if_neg b]; exact ih
    · have e' : ¬ q.1 = k := fun z => e (h1.trans z)
      have a : decide (p.1 ≠ k) = true := by simp [e]
      have b : decide (q.1 ≠ k) = true := by simp [e']
      rw [if_pos a, if_pos b]; exact .cons ⟨h1, h2⟩ ih
theorem KV.keys {kvs : List (κ × V)} {vs : List (κ × Value)} (r : KV kvs vs) : kvs.map (·.1) = vs.map (·.1) := by
  unfold KV at r
  induction r with
  | nil => rfl
  | cons h t ih => rw [List.map_cons, List.map_cons, ih, h.1]
theorem KV.length {kvs : List (κ × V)} {vs : List (κ × Value)} (r : KV kvs vs) : kvs.length = vs.length := Paired.length r
end
theorem kV_is {P : Program} {w : World} {k : Key} {u : Value} (r : RelV (kV k) u) : (mixKind P w).is k u = true := by
  cases k with
  | inl i => obtain ⟨t, e⟩ := (show ∃ t, u = Value.int i t from r); subst e; exact mixKind_int P w i t
  | inr x => obtain ⟨t, e⟩ := (show ∃ t, u = Value.str x t from r); subst e; exact mixKind_str P w x t
theorem items_are {P : Program} {w : World} : ∀ {ks : List Key} {us : List Value}, Vals (ks.map kV) us → ItemsAre (mixKind P w) ks us
  | [], _, r => by rw [List.map_nil] at r; cases r; exact .nil
  | k :: ks, _, r => by
    rw [List.map_cons] at r
    cases r with
    | cons h t => exact .cons (kV_is h) (items_are t)
abbrev KT (H : Hp) : List (List Key × V) → List (List Key × Addr × Value) → Prop := Paired fun p q => p.1 = q.1 ∧ H q.2.1 = some (.tup (p.1.map kV)) ∧ RelV p.2 q.2.2
theorem KT.val {H : Hp} {kvs : List (List Key × V)} {xs : List (List Key × Addr × Value)} (r : KT H kvs xs) (k : List Key) : RelO (valV kvs k) ((atKey xs k).map (·.2)) := by
  induction r with
  | nil => exact True.intro
  | @cons p q ps qs h t ih =>
    obtain ⟨h1, _, h2⟩ := h
    by_cases e : p.1 = k
    · have e' : q.1 = k := h1.symm.trans e
      have b : atKey (q :: qs) k = some q.2 := by simp [atKey, List.find?_cons, e']
      rw [valV_pos e, b]; exact h2
    · have e' : ¬ q.1 = k := fun z => e (h1.trans z)
      have b : atKey (q :: qs) k = atKey qs k := by simp [atKey, List.find?_cons, e']
      rw [valV_neg e, b]; exact ih
theorem KT.repl {H : Hp} {kvs : List (List Key × V)} {xs : List (List Key × Addr × Value)} (r : KT H kvs xs) (k : List Key) {y : V} {u : Value} (ry : RelV y u) :
    KT H (kvs.map fun kv => if kv.1 = k then (kv.1, y) else kv) (xs.map (putAt k u)) := by
  induction r with
  | nil => exact .nil
  | @cons p q ps qs h t ih =>
    rw [List.map_cons, List.map_cons]
    refine .cons ?_ ih
    obtain ⟨h1, h2, h3⟩ := h
    unfold putAt
    by_cases e : p.1 = k
    · rw [if_pos e, if_pos (h1.symm.trans e)]; exact ⟨h1, h2, ry⟩
    · rw [if_neg e, if_neg (fun z => e (h1.trans z))]; exact ⟨h1, h2, h3⟩
theorem KT.put {H : Hp} {kvs : List (List Key × V)} {xs : List (List Key × Addr × Value)} (r : KT H kvs xs) (k : List Key) {b : Addr} {y : V} {u : Value} (hb : H b = some (.tup (k.map kV))) (ry : RelV y u) :
    KT H (putK kvs k y) (storedH xs k b u) := by
  have e : (kvs.any fun kv => decide (kv.1 = k)) = (atKey xs k).isSome := by
    rw [valV_any, (r.val k).isSome_eq, Option.isSome_map]
  unfold putK storedH
  rw [e]
  by_cases q : (atKey xs k).isSome = true
  · rw [if_pos q, if_pos q]; exact r.repl k ry
  · rw [if_neg q, if_neg q]; exact Paired.snoc r ⟨rfl, hb, ry⟩
theorem KT.keeps {H H' : Hp} {kvs : List (List Key × V)} {xs : List (List Key × Addr × Value)} (r : KT H kvs xs) (ht : ∀ b ys, H b = some (.tup ys) → H' b = some (.tup ys)) : KT H' kvs xs :=
  Paired.mapP r fun _ _ z => ⟨z.1, ht _ _ z.2.1, z.2.2⟩
section
variable {P : Program} {w : World} {H : Hp} {h : Heap} {a : Addr}
theorem rd_of {u : HO} (ok : HOk P w H h) (e : Rd H a u) : ObjOk P w H h a u := e.ok ok
theorem key_of {ks : List Key} (ok : HOk P w H h) (e : H a = some (.tup (ks.map kV))) : (tupleKind (mixKind P w)).is h ks a := by
  obtain ⟨_, its, r, o, h1, h2, n, h3⟩ := (show ObjOk P w H h a (.tup (ks.map kV)) from ok a _ e)
  exact ⟨o, its.toArray, n, h1, h2, h3, by simpa using items_are r⟩
theorem dt_rd {kvs : List (List Key × V)} (ok : HOk P w H h) (e : Rd H a (.dT kvs)) : kvs.length ≤ sizeLine ∧ (a == sysModules) = false ∧
    ∃ xs, KT H kvs xs ∧ h.DictOfH (tupleKind (mixKind P w)) a xs := by
  obtain ⟨z, y, xs, r, o, es, ep, h1, h2, h3, h4, h5⟩ := (show ObjOk P w H h a (.dT kvs) from rd_of ok e)
  refine ⟨z, y, xs, r, o, es, ep, h1, h2, h3, h4, fun x hx => ?_, h5⟩
  have all : ∀ {l : List (List Key × V)} {m : List (List Key × Addr × Value)}, KT H l m → ∀ x ∈ m, (tupleKind (mixKind P w)).is h x.1 x.2.1 := by
    intro l m q
    induction q with
    | nil => intro x hx; exact nomatch hx
    | @cons p q ps qs hq t ih =>
      intro x hx
      rcases List.mem_cons.mp hx with e | hx
      · subst e
        exact key_of ok (by rw [← hq.1]; exact hq.2.1)
      · exact ih x hx
  exact all r x hx
theorem dt_of {kvs : List (List Key × V)} (ok : HOk P w H h) (e : H a = some (.dT kvs)) : kvs.length ≤ sizeLine ∧ (a == sysModules) = false ∧
    ∃ xs, KT H kvs xs ∧ h.DictOfH (tupleKind (mixKind P w)) a xs := dt_rd ok (.inl e)
end
def DGet (H : Hp) (a : Addr) (y : V) (r : Option V) : Prop :=
  (∃ kvs k, Rd H a (.dK kvs) ∧ y = kV k ∧ r = valV kvs k) ∨ ∃ kvs k b, Rd H a (.dT kvs) ∧ y = .ref b ∧ H b = some (.tup (k.map kV)) ∧ r = valV kvs k
def DPut (H : Hp) (a : Addr) (y v : V) (H' : Hp) : Prop :=
  (∃ kvs k, H a = some (.dK kvs) ∧ y = kV k ∧ kvs.length < sizeLine ∧ H' = upd H a (.dK (putK kvs k v))) ∨
  ∃ kvs k b, H a = some (.dT kvs) ∧ y = .ref b ∧ H b = some (.tup (k.map kV)) ∧ kvs.length < sizeLine ∧ H' = upd H a (.dT (putK kvs k v))
theorem DGet.k {H : Hp} {a : Addr} {kvs : List (Key × V)} {k : Key} (e : H a = some (.dK kvs)) : DGet H a (kV k) (valV kvs k) := .inl ⟨kvs, k, .inl e, rfl, rfl⟩
theorem DGet.t {H : Hp} {a b : Addr} {kvs : List (List Key × V)} {k : List Key} (e : H a = some (.dT kvs)) (eb : H b = some (.tup (k.map kV))) : DGet H a (.ref b) (valV kvs k) := .inr ⟨kvs, k, b, .inl e, rfl, eb, rfl⟩
theorem DPut.k {H : Hp} {a : Addr} {kvs : List (Key × V)} {k : Key} {v : V} (e : H a = some (.dK kvs)) (hl : kvs.length < sizeLine) : DPut H a (kV k) v (upd H a (.dK (putK kvs k v))) := .inl ⟨kvs, k, e, rfl, hl, rfl⟩
theorem DPut.t {H : Hp} {a b : Addr} {kvs : List (List Key × V)} {k : List Key} {v : V} (e : H a = some (.dT kvs)) (eb : H b = some (.tup (k.map kV))) (hl : kvs.length < sizeLine) :
    DPut H a (.ref b) v (upd H a (.dT (putK kvs k v))) := .inr ⟨kvs, k, b, e, rfl, eb, hl, rfl⟩
section
variable {X : Cx} {pins : List (Addr × Obj)} {σ : St} {H : Hp} {s : Shared} {a : Addr} {y v : V} {u r : Value} {o : Option V} {A : Around} {E : Value → Shared → Prop}
end
section
variable {X : Cx} {pins : List (Addr × Obj)} {σ : St} {H : Hp} {s : Shared} {a : Addr} {kvs : List (Key × V)} {k : Key} {u : Value} {A : Around} {E : Value → Shared → Prop}
end
section
variable {X : Cx} {o i e value : Expr} {pos pos' tpos : Pos} {td ty tv : TE}
end
section
variable {X : Cx} {pos : Pos}
end
def tPairs : List (TE × TE) → St → Hp → (List (V × V) → Hp → Prop) → Prop
  | [], _, H, Q => Q [] H
  | (tk, tv) :: r, σ, H, Q => tk σ H fun x H1 => tv σ H1 fun y H2 => tPairs r σ H2 fun ps H3 => Q ((x, y) :: ps) H3
abbrev VV : List (V × V) → List (Value × Value) → Prop := Paired fun p q => RelV p.1 q.1 ∧ RelV p.2 q.2
def PPs (X : Cx) (pos : Pos) (keys : List (Option Expr)) (values : List Expr) (trs : List (TE × TE)) : Prop :=
  ∀ (pins : List (Addr × Obj)) (s : Shared) (σ : St) (H : Hp) (Q : List (V × V) → Hp → Prop), Inv X pins σ H s → tPairs trs σ H Q →
    wpAny (model X.prog X.w) X.A (evalPairs (pairTrees keys values X.env pos)) (fun vs s' => ∃ ps H', Inv X pins σ H' s' ∧ VV ps vs ∧ Q ps H') X.xe s
structure M1 (X : Cx) (o : Expr) (m : Str) (apos : Pos) (e : Expr) (cpos : Pos) : Prop where
  base : attributeBase o m X.env (eval o X.env) = eval o X.env
  few : ((backTo cpos (starEach [e] X.env)).all (fun x => !x.1) && (backToKw cpos (keywordEach [] X.env)).all (fun x => x.1.isSome)
    && decide (([e] : List Expr).length + ([] : List Keyword).length + (if ([] : List Keyword).isEmpty then 0 else 1) < 30)) = true
  line : (apos.endLine == cpos.line) = true
  trees : backTo cpos (starEach [e] X.env) = [(false, eval e X.env)]
structure M2 (X : Cx) (o : Expr) (m : Str) (apos : Pos) (e f : Expr) (cpos : Pos) : Prop where
  base : attributeBase o m X.env (eval o X.env) = eval o X.env
  few : ((backTo cpos (starEach [e, f] X.env)).all (fun x => !x.1) && (backToKw cpos (keywordEach [] X.env)).all (fun x => x.1.isSome)
    && decide (([e, f] : List Expr).length + ([] : List Keyword).length + (if ([] : List Keyword).isEmpty then 0 else 1) < 30)) = true
  line : (apos.endLine == cpos.line) = true
  trees : backTo cpos (starEach [e, f] X.env) = [(false, eval e X.env), (false, eval f X.env)]
section
variable {X : Cx} {pins : List (Addr × Obj)} {σ : St} {H : Hp} {s : Shared} {a : Addr} {y d : V} {u r : Value} {o : Option V} {A : Around} {E : Value → Shared → Prop}
end
section
variable {X : Cx} {o e f : Expr} {apos cpos : Pos} {td ty tx : TE}
end
section
variable {X : Cx} {pins : List (Addr × Obj)} {σ : St} {H : Hp} {s : Shared} {a : Addr} {kvs : List (Key × V)} {A : Around} {E : Value → Shared → Prop}
end
section
variable {X : Cx} {pins : List (Addr × Obj)} {σ : St} {H : Hp} {s : Shared} {a : Addr} {y : V} {u : Value} {A : Around} {E : Value → Shared → Prop}
end
end L2
namespace L2
open PySem PySem.Spec PyProof.Rows
section
variable {prog : Program} {w : World} {A : Around} {E : Value → Shared → Prop}
end
section
variable {X : Cx}
end
end L2
namespace L2
open PySem PySem.Spec PyProof.Rows
section
variable {X : Cx} {pins : List (Addr × Obj)} {σ : St} {H : Hp} {s : Shared} {h' : Heap}
theorem Inv.turnedL {t' : Nat} {ch : List Addr} (I : Inv X pins σ H s) (k : ∀ b o, b ∉ ch → s.heap.get? b = some o → h'.get? b = some o) (hf : ∀ b ∈ ch, FpOk X pins H b) : Inv X pins σ H { s with heap := h', toks := t' } := by
  have nit : ∀ b u, H b = some u → b ∉ ch := fun b u e z => by
    have q := (hf b z).1
    rw [q] at e; cases e
  refine I.step (g' := s.gens) (d' := s.drawn) (ch := ch) (fun b hb => ⟨(hf b hb).2.2.2.1, (hf b hb).2.1, (hf b hb).2.2.2.2.1, (hf b hb).2.2.2.2.2⟩) (fun b o _ _ hc e _ => k b o hc e) (fun b o _ _ hc e _ => ⟨o.slots, k b o hc e⟩)
    (fun _ _ _ _ n => n) (fun b o hc e => ⟨o, k b o hc e⟩) (fun _ _ e => e) (fun _ _ _ e => e) (fun b ps e => ⟨#[], by rw [e]; simp⟩) (fun m hm => ?_) (fun b u e => ?_) I.bare
  · obtain ⟨o, es, ep, ho, r⟩ := hm
    exact ⟨o, es, ep, k _ o (fun z => (hf _ z).2.1 rfl) ho, r⟩
  · refine (I.hok b u e).stay (fun c v hc q => k c v ?_ q) (fun _ q => q) fun _ _ q => q
    rcases hc with z | z
    · rw [z]; exact nit b u e
    · exact nit c _ z
theorem Inv.turnedNew {t' : Nat} {ch : List Addr} {T : Addr} {ob : HO} (I : Inv X pins σ H s) (k : ∀ b o, b ∉ ch → s.heap.get? b = some o → h'.get? b = some o) (hf : ∀ b ∈ ch, FpOk X pins H b) (hT : s.heap.objs.size ≤ T)
    (new : ObjOk X.prog X.w (upd H T ob) h' T ob) : Inv X pins σ (upd H T ob) { s with heap := h', toks := t' } := by
  have hn : H T = none := I.hok.fresh hT
  have nit : ∀ b u, H b = some u → b ∉ ch := fun b u e z => by
    have q := (hf b z).1
    rw [q] at e; cases e
  refine I.step (g' := s.gens) (d' := s.drawn) (ch := ch) (fun b hb => ⟨(hf b hb).2.2.2.1, (hf b hb).2.1, (hf b hb).2.2.2.2.1, (hf b hb).2.2.2.2.2⟩) (fun b o _ _ hc e _ => k b o hc e) (fun b o _ _ hc e _ => ⟨o.slots, k b o hc e⟩)
    (fun b o _ e n => ?_) (fun b o hc e => ⟨o, k b o hc e⟩) (fun b xs e => ?_) (fun b o u e => ?_) (fun b ps e => ⟨#[], ?_⟩) (fun m hm => ?_) (fun b u e => ?_) I.bare
  · rw [upd_ne (Nat.ne_of_lt (Nat.lt_of_lt_of_le (Heap.lt_size e) hT))]; exact n
  · rw [upd_ne (ne_of_none e hn)]; exact e
  · rw [upd_ne (ne_of_none e hn)]; exact e
  · rw [upd_ne (ne_of_none e hn), e]; simp
  · obtain ⟨o, es, ep, ho, r⟩ := hm
    exact ⟨o, es, ep, k _ o (fun z => (hf _ z).2.1 rfl) ho, r⟩
  · by_cases hb : b = T
    · subst hb
      rw [upd_same] at e
      cases e
      exact new
    · rw [upd_ne hb] at e
      refine (I.hok b u e).stay (fun c v hc q => k c v ?_ q) (fun c q => by rw [upd_ne (ne_of_none q hn)]; exact q) fun c xs q => by rw [upd_ne (ne_of_none q hn)]; exact q
      rcases hc with z | z
      · rw [z]; exact nit b u e
      · exact nit c _ z
end
section
variable {X : Cx}
end
def RgC (i j c : Int) (n : Nat) : Prop := c ≠ 0 ∧ c.natAbs < 1073741824 ∧ Builtin.Range.small i j c = true ∧ Builtin.Range.rangeSize i j c = n
theorem RgC.neg {i j : Int} (ha : -(2 ^ 62) ≤ i) (ha' : i < 2 ^ 62) (hb : -(2 ^ 62) ≤ j) (hb' : j < 2 ^ 62) : RgC i j (-1) (i - j).toNat :=
  ⟨by decide, by decide, PySem.W.small_down ha ha' hb hb', PySem.W.rangeSize_downNat i j⟩
section
variable {X : Cx} {tg : Expr}
end
section
variable {X : Cx} {tg : Expr}
end
section
variable {prog : Program} {w : World} {A : Around} {E : Value → Shared → Prop} {s : Shared}
end
theorem paired_get {α β : Type} {G : α → β → Prop} {l₁ : List α} {l₂ : List β} (h : Paired G l₁ l₂) : ∀ {i : Nat} {a : α}, l₁[i]? = some a → ∃ b, l₂[i]? = some b ∧ G a b := by
  induction h with
  | nil => intro i a e; simp at e
  | @cons a b l₁ l₂ r t ih =>
    intro i a' e
    cases i with
    | zero =>
      simp only [List.getElem?_cons_zero, Option.some.injEq] at e
      subst e
      exact ⟨b, rfl, r⟩
    | succ j =>
      simp only [List.getElem?_cons_succ] at e ⊢
      exact ih e
section
variable {X : Cx} {pins : List (Addr × Obj)} {σ : St} {H : Hp} {s : Shared} {d : Addr} {o : Obj}
end
section
variable {P : Program} {w : World} {K : PySem.W.Frag} {tg : Expr} {d : Addr} {o : Obj} {es : Array DictEntry} {ep : Nat}
end
section
variable {X : Cx} {tg e : Expr} {td : TE} {apos cpos : Pos}
end
theorem boot_zip5 : bootBuiltins "zip" = some (.type "zip") := by decide +kernel
end L2
section 
namespace Bits
open PySem PyProof.Rows
end Bits
end 
section 
namespace TL
open PySem PySem.Builtin PySem.Builtin.Str PySem.StrLaws
abbrev tl (x : Str) : List Nat := x.cps.toList
def pre (S l : List Nat) : Bool := l.take S.length == S
def par (S : List Nat) : List Nat → List Nat → Option (List Nat × List Nat)
  | _, [] => none
  | acc, c :: r => if pre S (c :: r) = true then some (acc, (c :: r).drop S.length) else par S (acc ++ [c]) r
end TL
end 
namespace L2
open PySem PySem.Spec PyProof.Rows
section
variable {X : Cx} {pins : List (Addr × Obj)} {σ : St} {H : Hp} {s : Shared} {Q : VK}
end
section
variable {X : Cx}
end
section
variable {X : Cx} {o e : Expr} {to te : TE}
def tM1 (r : V → List V → Hp → VK → Prop) (to te : TE) : TE := fun σ H Q => to σ H fun x H1 => (∃ a, x = .str a) ∧ te σ H1 fun y H2 => r x [y] H2 Q
theorem pe_m1 {id : String} {name : Str} {apos pos : Pos} {r : V → List V → Hp → VK → Prop} (slot : Slot "str" name id) (ty : typeOf (.builtin id) = pure (.type "method_descriptor")) (rule : MtR X id r) (ho : PE X o to) (he : PE X e te)
    (hs : starEach [e] X.env = [(false, eval e X.env)] := by rfl) (hbase : attributeBase o name X.env (eval o X.env) = eval o X.env := by rfl) (hline : (apos.endLine == pos.line) = true := by rfl) :
    PE X (.Call (.Attribute o name apos) [e] [] pos) (tM1 r to te) := by
  intro pins s σ H Q I h
  refine PySem.Call_method1 hbase hs hline (thn (ho pins s σ H _ I h) fun v s1 ⟨x, H1, I1, r1, q1⟩ => ?_)
  obtain ⟨⟨a, rfl⟩, q1⟩ := q1
  obtain ⟨t, rfl⟩ := _root_.id r1
  refine ⟨"str", _, F.plainAttrs_str, slot, ty, typeIs_str _ _ _, (fun _ e => nomatch e), Calls.callWith_builtin rfl (Calls.evalArgs_plain (Calls.spliced_cons ?_))⟩
  exact thn (he pins s1 σ H1 _ I1 q1) fun u s2 ⟨y, H2, I2, r2, q2⟩ => Calls.spliced_nil (rule pins s2 σ H2 _ [y] _ [u] Q I2 r1 (.cons r2 .nil) q2)
end
end L2
namespace L2
open PySem PySem.Spec PyProof.Rows
section
variable {X : Cx}
end
theorem IsPart.raw {v : Value} {o : Option Int} (p : IsPart v o) : ∃ l : Option (Int × Tok), v = partValue l ∧ l.map (·.1) = o := by
  cases p with
  | none => exact ⟨none, rfl, rfl⟩
  | int i t => exact ⟨some (i, t), rfl, rfl⟩
def clipS (n d : Nat) : Option Int → Int
  | none => (d : Int)
  | some i => max 0 (min (if i < 0 then i + (n : Int) else i) (n : Int))
theorem clipS_eq (n d : Nat) (o : Option Int) : clipS n d o = ((HT.sIx n d o : Nat) : Int) := by
  cases o with
  | none => rfl
  | some v =>
    show max (0 : Int) (min (if v < 0 then v + (n : Int) else v) (n : Int)) = (((if v < 0 then (v + (n : Int)).toNat else min v.toNat n) : Nat) : Int)
    by_cases hv : v < 0
    · simp only [if_pos hv]
      omega
    · simp only [if_neg hv]
      omega
theorem sidx_clip (a b : Option Int) (n : Nat) : Builtin.Str.strSliceIndices a b 1 n = sliceRange (clipS n 0 a) (clipS n n b) 1 := by
  have h1 : ((1 : Int) > 0) = True := by simp
  cases a <;> cases b <;> first
    | rfl
    | (simp only [Builtin.Str.strSliceIndices, clipS, h1, if_true]; rfl)
    | simp [Builtin.Str.strSliceIndices, clipS]
theorem sidx (a b : Option Int) (n : Nat) : Builtin.Str.strSliceIndices a b 1 n = (List.range (HT.sIx n n b - HT.sIx n 0 a)).map (fun k => HT.sIx n 0 a + k) := by
  rw [sidx_clip, clipS_eq, clipS_eq]
  generalize HT.sIx n 0 a = p
  generalize HT.sIx n n b = q
  simp only [sliceRange, show ((1 : Int) > 0) = True from by simp, if_true]
  by_cases hlt : (p : Int) < q
  · have e3 : (((q : Int) - p + 1 - 1) / 1).toNat = q - p := by first | omega | (simp; done) | (simp; omega)
    simp only [hlt, if_true, e3]
    refine List.map_congr_left fun k _ => ?_
    omega
  · have : q - p = 0 := by omega
    simp [hlt, this]
def cutS (z : Str) (lo hi : Option Int) : Str :=
  ⟨((z.cps.toList.drop (HT.sIx z.length 0 lo)).take (HT.sIx z.length z.length hi - HT.sIx z.length 0 lo)).toArray⟩
theorem sliceText_cut (z : Str) (lo hi : Option Int) : PySem.StrLaws.sliceText z lo hi = cutS z lo hi := by
  have h1 : HT.sIx z.length 0 lo ≤ z.length := HT.sIx_le _ _ (Nat.zero_le _) _
  have h2 : HT.sIx z.length z.length hi ≤ z.length := HT.sIx_le _ _ (Nat.le_refl _) _
  have hp : HT.sIx z.length 0 lo ≤ max (HT.sIx z.length 0 lo) (HT.sIx z.length z.length hi) := Nat.le_max_left _ _
  have hq : max (HT.sIx z.length 0 lo) (HT.sIx z.length z.length hi) ≤ z.length := Nat.max_le.mpr ⟨h1, h2⟩
  have hd : max (HT.sIx z.length 0 lo) (HT.sIx z.length z.length hi) - HT.sIx z.length 0 lo = HT.sIx z.length z.length hi - HT.sIx z.length 0 lo := by omega
  have e : Builtin.Str.strSliceIndices lo hi 1 z.length =
      Builtin.Str.strSliceIndices (some ((HT.sIx z.length 0 lo : Nat) : Int)) (some ((max (HT.sIx z.length 0 lo) (HT.sIx z.length z.length hi) : Nat) : Int)) 1 z.length := by
    rw [PySem.StrLaws.strSliceIndices_plain hp hq, hd, sidx]
  have e2 : PySem.StrLaws.sliceText z lo hi =
      PySem.StrLaws.sliceText z (some ((HT.sIx z.length 0 lo : Nat) : Int)) (some ((max (HT.sIx z.length 0 lo) (HT.sIx z.length z.length hi) : Nat) : Int)) := by
    unfold PySem.StrLaws.sliceText
    rw [e]
  rw [e2, PySem.StrLaws.sliceText_nat z hp hq, hd]
  rfl
theorem cutS_length (z : Str) (lo hi : Option Int) : (cutS z lo hi).length ≤ z.length := by
  show (((z.cps.toList.drop (HT.sIx z.length 0 lo)).take (HT.sIx z.length z.length hi - HT.sIx z.length 0 lo)).toArray).size ≤ z.cps.size
  rw [List.size_toArray, List.length_take, List.length_drop, Array.length_toList]
  omega
def rSlS : V → Option Int → Option Int → Hp → VK → Prop := fun x lo hi H Q => ∃ z, x = .str z ∧ z.length ≤ sizeLine ∧ Q (.str (cutS z lo hi)) H
theorem sl_str {X : Cx} : SlR X rSlS := by
  intro pins s σ H x v vl vu lo hi sl Q I rx hs pl pu h
  obtain ⟨z, rfl, hz, q⟩ := h
  obtain ⟨t, rfl⟩ := rx
  obtain ⟨os, hos, hcs, hds⟩ := hs
  obtain ⟨l, rfl, rfl⟩ := IsPart.raw pl
  obtain ⟨u, rfl, rfl⟩ := IsPart.raw pu
  refine ⟨"str", _, F.slot_str_getitem.lookup, typeIs_str _ _ _, ?_⟩
  refine wpAny_getItem_str_slice (l := l) (u := u) (st := none) ⟨os, hos, hcs, hds⟩ rfl ?_
  have hl : (PySem.StrLaws.sliceText z (l.map (·.1)) (u.map (·.1))).length ≤ sizeLine := by
    rw [sliceText_cut]
    exact Nat.le_trans (cutS_length z _ _) hz
  rw [← sliceText_cut] at q
  unfold PySem.StrLaws.sliceText at q hl
  show Made.post (if ((1 : Int) == 1 && (Builtin.Str.strSliceIndices (l.map (·.1)) (u.map (·.1)) 1 z.length).length == z.length) = true then Made.val (.str z t)
    else Made.str ⟨((Builtin.Str.strSliceIndices (l.map (·.1)) (u.map (·.1)) 1 z.length).filterMap (z.cps[·]?)).toArray⟩) (EP X pins σ Q) s
  by_cases c : ((1 : Int) == 1 && (Builtin.Str.strSliceIndices (l.map (·.1)) (u.map (·.1)) 1 z.length).length == z.length) = true
  · rw [if_pos c] at q ⊢
    exact ⟨.str z, H, I, ⟨t, rfl⟩, q⟩
  · rw [if_neg c] at q hl ⊢
    exact ⟨hl, .str _, H, I.tok _, ⟨_, rfl⟩, q⟩
end L2
namespace Att
open PySem PySem.W PySem.Calls PyProof.Rows
theorem ints_of_wellAll {P : Params} {h : Heap} : ∀ (ns : List Int) (vs : List Value), WellAll P h vs (ns.map WData.int) → IntsAre vs ns := by
  intro ns
  induction ns with
  | nil =>
    intro vs w
    rw [List.map_nil] at w
    cases w
    exact .nil
  | cons n ns ih =>
    intro vs w
    rw [List.map_cons] at w
    cases w with
    | cons a b =>
      cases a
      exact .cons _ _ (ih _ b)
theorem script_of {l : OpenLaw} {n : Nat} (hn : l.most = some n) {P : Params} {h : Heap} {args : List WData} {vals : List Value}
    (hpre : l.row.toRowW.claim.pre args = true) (hwl : WellAll P h vals args) :
    ∃ a vs ns, vals = [Value.ref a] ∧ args = [WData.list (ns.map WData.int)] ∧ h.get? a = some { cls := .type "list", data := .seq vs.toArray } ∧ IntsAre vs ns ∧ ns.length ≤ n := by
  have hsh : WShape.hasAll [] args [.list .int] = true := (pre_splitW hpre).1
  have hc : l.pre.holds [] { args := args } = true := (pre_splitW hpre).2
  obtain ⟨d, r, rfl, h1, h2⟩ := hasAllW_cons hsh
  obtain rfl := hasAllW_nil h2
  obtain ⟨xs, rfl, h3⟩ := hasW_list h1
  obtain ⟨ns, rfl⟩ := items_int h3
  have hlen : ns.length ≤ n := by
    unfold OpenLaw.pre at hc
    have h4 : (WTm.not (.lt (.lit (.int (n : Int))) (.len (.arg 0)))).holds [] { args := [.list (ns.map .int)] } = true := by
      have h4 := (holds_andW hc).1
      rw [hn] at h4
      exact h4
    have h5 := condW_of h4 (w_not (w_lt w_lit (w_len_list (w_arg rfl))))
    rw [List.length_map] at h5
    refine Nat.le_of_not_lt fun q => ?_
    have q' : (n : Int) < ((ns.length : Nat) : Int) := by omega
    first
      | (rw [decide_eq_true q'] at h5; exact absurd h5 (by decide))
      | (simp at h5; omega)
  cases hwl with
  | cons w1 w2 =>
    cases w2
    cases w1 with
    | list ho hall => exact ⟨_, _, ns, rfl, rfl, ho, ints_of_wellAll ns _ hall, hlen⟩
theorem post_true (l : OpenLaw) (args : List WData) : l.row.toRowW.claim.post args (.bool true) args = true :=
  postW_of (r := l.row.toRowW) (X := (true == true))
    (show WShape.has [] (.bool true) .bool = true by first | rfl | decide | simp [WShape.has, WShape.arms, WShape.armsAll])
    (show (WTm.eq .res (.lit (.bool true))).value [] { args := args, res := some (.bool true), after := args } = some (.bool (true == true)) from w_eq_bool (w_res rfl) w_lit) rfl
theorem attach_call {l : OpenLaw} {n : Nat} {q : Program} {loose : List Str} {XP : (Str → Option Value) → Heap → Prop} {YP : World → Heap → Prop} {d : DefRec}
    (hn : l.most = some n) (hdf : d.params.defaults = [])
    (call : ∀ (w : World) (s₀ s₁ : Shared) (mg mb : Str → Option Value) (fa : Addr) (o : Obj) (pm cd doc : Value) (a : Addr) (vs : List Value) (ns : List Int),
      Ground q loose [] XP w s₀ mg mb s₁.heap → YP w s₁.heap →
      s₁.heap.get? fa = some o → o.data = .func (docDef d.name d.params d.body d.scope pm cd doc) → s₁.heap.CodeRec cd d.name → mg d.name = some (.ref fa) →
      s₁.heap.get? a = some { cls := .type "list", data := .seq vs.toArray } → IntsAre vs ns → ns.length ≤ n → s₁.gens = #[] →
      codeAny (model l.prog w) callerA (.call (.ref fa) ⟨[.ref a], []⟩) (fun r s' => r = .ok (.ret (.bool true)) ∧ OldK s₁.heap s'.heap ∧ s'.os = s₁.os ∧ AllBare s'.gens) s₁) :
    WalkO q loose XP YP l.row.toRowW d [] (fun f vs => PySem.call f vs) := by
  intro w s₀ s₁ mg mb G Y fa o pm cd doc dV kV ho hd hcd hD hmg hg args vals as hpre hlay hrd hwl hlo
  obtain rfl : dV = .none := Dflts.none hD hdf
  obtain rfl : kV = .none := Dflts.noKw hD
  obtain ⟨a, vs, ns, rfl, rfl, hobj, hints, hlen⟩ := script_of hn hpre hwl
  refine enter_call (codeAny_mono (call w s₀ s₁ mg mb fa o pm cd doc a vs ns G Y ho (fd_plain hd) hcd hmg hobj hints hlen hg) fun r s' hq => ?_)
  obtain ⟨rfl, h2, h3, h4⟩ := hq
  exact ⟨.inl ⟨.bool true, .bool true, [], rfl, fun _ => rfl, .bool true, post_true l _, fun _ => ⟨List.Pairwise.nil, fun _ hm => (nomatch hm)⟩⟩, h2, h3, h4⟩
section
variable {prog : Program} {w : World} {A : Around} {E : Value → Shared → Prop} {s : Shared} {K : Frag}
end
end Att
namespace L2
open PySem PySem.Spec PyProof.Rows
theorem vals_ints : ∀ {vs : List Value} {ns : List Int}, IntsAre vs ns → Vals (ns.map V.int) vs
  | _, _, .nil => .nil
  | _, _, .cons n t h => .cons ⟨t, rfl⟩ (vals_ints h)
def Only (H : Hp) : Prop := ∀ b, H b = none ∨ ∃ o xs, H b = some (.frz o (.lst xs))
theorem law_call {P : Program} {w : World} {K : PySem.W.Frag} {mg mb : Str → Option Value} {CX : CXT} {k : Nat} {fa a : Addr} {fd : FuncData} {x : Str} {sp : Sp} {s₁ : Shared} {vs : List Value} {ns : List Int}
    (KX : K.In s₁.heap) (hns : s₁.heap.Ns mainGlobals mg) (hb : s₁.heap.Ns builtinsNs mb) (hbb : ∀ x : Str, x ≠ "__name__" → mb x = bootBuiltins x) (hlim : s₁.heap.NoLimit) (hg : s₁.gens = #[])
    (ha : s₁.heap.get? a = some { cls := .type "list", data := .seq vs.toArray }) (hi : IntsAre vs ns) (hl : ns.length ≤ sizeLine) (hr : Room k callerA)
    (F : ∀ base : Heap, K.In base → base.Ns mainGlobals mg → FnOk P w K mg base CX k fa fd [x] sp) (hbind : ∀ (s : Shared) (u : Value), BindsTo s fd ⟨[u], []⟩ [(x, u)])
    (hsp : ∀ H : Hp, Only H → SqL K H a (ns.map V.int) → sp [.ref a] H (fun v _ => v = .bl true) fun _ _ _ => False)
    (hCX : ∀ H e s', CX [] H s₁ (fun _ _ _ => False) e s' → False) :
    codeAny (model P w) callerA (.call (.ref fa) ⟨[.ref a], []⟩) (fun r s' => r = .ok (.ret (.bool true)) ∧ OldK s₁.heap s'.heap ∧ s'.os = s₁.os ∧ AllBare s'.gens) s₁ := by
  have rv := vals_ints hi
  have lenV := hi.length
  -- from an abstract heap in which nothing but the script may be tracked
  have core : ∀ H : Hp, Only H → SqL K H a (ns.map V.int) → HOk P w H s₁.heap → (∀ b, H b ≠ none → b = a) → (H a ≠ none → K.lookup a = none) →
      codeAny (model P w) callerA (.call (.ref fa) ⟨[.ref a], []⟩) (fun r s' => r = .ok (.ret (.bool true)) ∧ OldK s₁.heap s'.heap ∧ s'.os = s₁.os ∧ AllBare s'.gens) s₁ := by
    intro H hO hS hok hA hK
    have base_of : ∀ {b : Addr} {o : Obj}, s₁.heap.get? b = some o → H b = none → (hidT s₁.heap H).get? b = some o := fun e n => hidT_get e n
    have noA : ∀ {b : Addr} {o : Obj} {es : Array DictEntry} {ep : Nat}, s₁.heap.get? b = some o → o.data = .dict es ep → H b = none := fun {b o es ep} e d => by
      cases q : H b with
      | none => rfl
      | some u =>
        have e' : b = a := hA b (by rw [q]; simp)
        subst e'
        rw [ha] at e; cases e
        have d' : Data.seq vs.toArray _ = Data.dict es ep := d
        cases d'
    have nsK : ∀ {b : Addr} {m : Str → Option Value}, s₁.heap.Ns b m → (hidT s₁.heap H).Ns b m := fun {b m} ⟨o, es, ep, e, d, r⟩ => ⟨o, es, ep, base_of e (noA e d), d, r⟩
    have hKb : K.In (hidT s₁.heap H) := fun b o e => base_of (KX b o e) (by
      cases q : H b with
      | none => rfl
      | some u =>
        have e' : b = a := hA b (by rw [q]; simp)
        subst e'
        rw [hK (by rw [q]; simp)] at e; cases e)
    have hM : Mod K mg (hidT s₁.heap H) := ⟨hKb, nsK hns, ⟨mb, nsK hb, hbb⟩, let ⟨mc, h1, h2⟩ := hlim; ⟨mc, nsK h1, h2⟩⟩
    have e0 : Env0 P w K mg (hidT s₁.heap H) callerA [] s₁ H := ⟨rfl, hM, fun b o e => of_hidT e, Nat.le_of_eq (hidT_size _ _), trivial, fun b hb => absurd (show b ∈ ([] : List Addr) from hb) (by simp), hok, .of_eq hg⟩
    refine codeAny_mono ((F _ hKb (nsK hns)).run callerA [] s₁ H ⟨[.ref a], []⟩ [.ref a] [.ref a] _ _ hr e0 (hbind s₁ (.ref a)) (.cons rfl .nil) (hsp H hO hS)) fun r s' h => ?_
    cases r with
    | error e => exact (hCX H e s' h).elim
    | ok fl =>
      cases fl with
      | next => exact False.elim h
      | brk => exact False.elim h
      | cont => exact False.elim h
      | ret u =>
        obtain ⟨v, H', os, bare, un, hok', r', q⟩ := h
        have q' : v = .bl true := q
        subst q'
        obtain rfl : u = Value.bool true := r'
        refine ⟨rfl, OldK.of_keep fun b o e => ?_, os, bare⟩
        cases q : H b with
        | none => exact un.keep b o e q (by intro z; exact absurd (show b ∈ ([] : List Addr) from z) (by simp)) (by simp)
        | some u =>
          rcases hO b with z | ⟨ob, xs, z⟩
          · rw [q] at z; cases z
          · have z2 := un.frzs b ob _ z
            obtain ⟨e1, _⟩ := hok b _ z
            obtain ⟨e2, _⟩ := hok' b _ z2
            rw [e] at e1; cases e1
            exact e2
  cases hk : K.lookup a with
  | some o =>
    -- the script is one of the module's own objects
    have e := KX a o hk
    rw [ha] at e
    cases e
    refine core (fun _ => none) (fun _ => .inl rfl) (.inr ⟨_, vs.toArray, _, hk, rfl, rfl, rfl, by rw [List.size_toArray, lenV]; exact hl, by simpa using rv⟩) (fun b u z => by have z' : (none : Option HO) = some u := z; cases z') (fun b z => absurd rfl z) fun z => absurd rfl z
  | none =>
    refine core (fun b => if b = a then some (.frz { cls := .type "list", data := .seq vs.toArray } (.lst (ns.map V.int))) else none) (fun b => ?_) (.inl (.inr ⟨{ cls := .type "list", data := .seq vs.toArray }, if_pos rfl⟩)) (fun b u z => ?_) (fun b z => ?_) fun _ => hk
    · by_cases hb : b = a
      · exact .inr ⟨_, _, if_pos hb⟩
      · exact .inl (if_neg hb)
    · by_cases hb : b = a
      · have z' := (if_pos hb).symm.trans z
        cases z'
        subst hb
        exact ⟨ha, by rw [List.length_map]; exact hl, vs, _, rv, ha⟩
      · have z' := (if_neg hb).symm.trans z
        cases z'
    · by_cases hb : b = a
      · exact hb
      · exact absurd (if_neg hb) z
end L2
namespace L2
open PySem PySem.Spec PyProof.Rows
abbrev KOf {K : PySem.W.Frag} {h : Heap} (_ : K.In h) : PySem.W.Frag := K
theorem walk_of {l : PySem.W.OpenLaw} {n k : Nat} {q : Program} {loose : List Str} {XP : (Str → Option Value) → Heap → Prop} {YP : World → Heap → Prop} {d : DefRec} {K : Params → PySem.W.Frag} {CX : World → CXT} {sp : World → Sp} {x : Str}
    (hn : l.most = some n) (hn2 : n ≤ sizeLine) (hdf : d.params.defaults = []) (hr : Room k callerA)
    (hY : ∀ (w : World) (h : Heap), YP w h → (K w.params).In h)
    (F : ∀ (w : World) (mg : Str → Option Value) (fa : Addr) (h : Heap), (K w.params).In h → h.Ns mainGlobals mg → mg d.name = some (.ref fa) →
      ∃ fd : FuncData, (∀ (s : Shared) (u : Value), BindsTo s fd ⟨[u], []⟩ [(x, u)]) ∧
        ∀ base : Heap, (K w.params).In base → base.Ns mainGlobals mg → FnOk l.prog w (K w.params) mg base (CX w) k fa fd [x] (sp w))
    (hsp : ∀ (w : World) (H : Hp) (a : Addr) (ns : List Int), ns.length ≤ n → Only H → SqL (K w.params) H a (ns.map V.int) → sp w [.ref a] H (fun v _ => v = .bl true) fun _ _ _ => False)
    (hCX : ∀ (w : World) (H : Hp) (s : Shared) (e : Value) (s' : Shared), CX w [] H s (fun _ _ _ => False) e s' → False) :
    PySem.W.WalkO q loose XP YP l.row.toRowW d [] (fun f vs => PySem.call f vs) := by
  refine Att.attach_call hn hdf fun w s₀ s₁ mg mb fa o pm cd doc a vs ns G Y ho hd hcd hmg hobj hints hlen hg => ?_
  have KX := hY w _ Y
  obtain ⟨fd, hb, hF⟩ := F w mg fa _ KX G.T.g hmg
  exact law_call KX G.T.g G.T.b G.T.builtins G.T.nolimit hg hobj hints (Nat.le_trans hlen hn2) hr hF hb (fun H hO hS => hsp w H a ns hlen hO hS) fun H e s' => hCX w H s₁ e s'
end L2
/- THE LAST THEOREM (shape; LID, My.* are yours):
   My.Adr: a structure of the addresses that your layer names (classes, functions); My.Txt K t: a structure (Prop) of the equations over K;
   My.txt_mk : {K} {implicit addresses ..} (e1 : nsIn K mainGlobals "law" = some (some (.ref f))) (e2 : K.lookup f = some ⟨oc, od, .func (fnOf "law" "law" params body scope dV kV doc pm an cdv ct), sl⟩) (e3 : codeIn K cdv "law" = true) .. : ∃ t, My.Txt K t
set_option maxRecDepth 100000 in
set_option maxHeartbeats 0 in
theorem PySem.Challenge.cw_LID_holds : PySem.Challenge.rw_LID.Holds := by
  w_on; o_law; k_head; (case hw => w_witness2)
  k_fill
  refine L2.walk_of (l := PySem.Challenge.rw_LID) (n := 63) (k := 40) (x := "script") (CX := fun w => ..) (sp := fun _ => My.sp_law) rfl (by decide) rfl ⟨rfl, by decide, by decide⟩ (fun w h Y => PySem.W.kIn_of Y) ?F ?S ?C
  case F =>
    intro w mg fa h KX G hmg
    have T : ∃ t, My.Txt (L2.KOf KX) t := by
      dsimp only [L2.KOf]                          -- K must stand as «<heap const> w.params» for k_is
      refine' My.txt_mk ?e1 ?e2 ?e3 ..
      (case e1 => PySem.W.k_is)                    -- in the order: a name -> its address -> its object -> its parts
      (case e2 => PySem.W.k_is)
      ..
    obtain ⟨t, T⟩ := T
    have e0 := hmg.symm.trans (PySem.W.mg_of KX G T.law)
    cases e0                                       -- fa is the law's own address
    exact ⟨_, fun s u => .of_eq rfl, fun base kb nb => My.law_fn T kb nb⟩     -- if «.of_eq rfl» comes too early: refine' ⟨_, ?b, fun base kb nb => My.law_fn T kb nb⟩; exact fun s u => .of_eq rfl
  case S => exact fun w H a ns hl hO hS => ..
  case C => exact ..
(the tactic k_is has no namespace: write k_is) -/
namespace L2
open PySem PySem.Spec PyProof.Rows
def defArgs (s : Stmt) : Arguments := match s with
  | .FunctionDef _ a _ _ _ _ _ _ _ _ => a
  | _ => { posonlyargs := [], args := [], vararg := none, kwonlyargs := [], kw_defaults := [], kwarg := none, defaults := [] }
def defBody (s : Stmt) : List Stmt := match s with
  | .FunctionDef _ _ b _ _ _ _ _ _ _ => b
  | _ => []
def defScope (s : Stmt) : Scope := match s with
  | .FunctionDef _ _ _ _ _ _ sc _ _ _ => sc
  | _ => { kind := .function, names := [], isGenerator := false, isCoroutine := false }
abbrev CX0 : CXT := fun _ _ _ _ _ _ => False
abbrev E0 : XK := fun _ _ _ => False
theorem pass0 {X : Cx} : Passes CX0 X E0 := fun _ _ _ _ _ _ _ h => h.elim
structure Fun (K : PySem.W.Frag) (x qual : Str) (st : Stmt) (f : Addr) (fd : FuncData) : Prop where
  ex : ∃ (oc : Value) (od : Option Addr) (kV doc pm : Value) (an : Option Addr) (cdv ct : Value) (osl : Array (Option Value)),
    fd = PySem.W.fnOf x qual (defArgs st) (defBody st) (defScope st) .none kV doc pm an cdv ct ∧ K.lookup f = some ⟨oc, od, .func fd, osl⟩ ∧ PySem.W.codeIn K cdv qual = true
  kp : PySem.W.keepIn K (.ref f) = true
section
variable {P : Program} {w : World} {K : PySem.W.Frag} {mg : Str → Option Value} {base : Heap}
theorem Fun.ok {x qual : Str} {st : Stmt} {f : Addr} {fd : FuncData} {N ps : List Str} {k : Nat} {sp : Sp} (F : Fun K x qual st f fd) (S : FnScope N ps (defScope st)) (len : ∀ vs H Q E, sp vs H Q E → vs.length = ps.length)
    (hbody : ∀ (cdv : Value) (A : Around) (outer : List Env) (s : Shared) (H : Hp) (vs : List V) (Q : VK) (E : XK), Room k (A.deeper (envOfC qual (defScope st) s.heap.objs.size f cdv)) → sp vs H Q E →
      ∃ t, PSs (cxOf CX0 P w K mg base N qual (defScope st) f cdv A outer s H E).nox (defBody st) t ∧ t { nx := fun _ H' => Q .non H', rt := Q } (start N vs) H) : FnOk P w K mg base CX0 (k + 1) f fd ps sp := by
  obtain ⟨oc, od, kV, doc, pm, an, cdv, ct, osl, rfl, lk, hcd⟩ := F.ex
  refine fn_of lk hcd S len fun A outer s H vs Q E hr hsp => ?_
  obtain ⟨t, h, q⟩ := hbody cdv A outer s H vs Q E hr hsp
  exact ⟨t, h.nox, q⟩
theorem Fun.binds {x qual : Str} {st : Stmt} {f : Addr} {fd : FuncData} {ps : List Str} (F : Fun K x qual st f fd)
    (h : ∀ (kV doc pm : Value) (an : Option Addr) (cdv ct : Value) (us : List Value), us.length = ps.length → bindArgs (PySem.W.fnOf x qual (defArgs st) (defBody st) (defScope st) .none kV doc pm an cdv ct) ⟨us, []⟩ = pure (ps.zip us)) : Binds K fd ps [] := by
  obtain ⟨oc, od, kV, doc, pm, an, cdv, ct, osl, rfl, lk, hcd⟩ := F.ex
  exact .all (h kV doc pm an cdv ct)
theorem fun_mk {x qual : Str} {st : Stmt} {f : Addr} {oc : Value} {od an : Option Addr} {osl : Array (Option Value)} {kV doc pm cdv ct : Value} (l : K.lookup f = some ⟨oc, od, .func (PySem.W.fnOf x qual (defArgs st) (defBody st) (defScope st) .none kV doc pm an cdv ct), osl⟩)
    (c : PySem.W.codeIn K cdv qual = true) (k : PySem.W.keepIn K (.ref f) = true) : Fun K x qual st f (PySem.W.fnOf x qual (defArgs st) (defBody st) (defScope st) .none kV doc pm an cdv ct) := ⟨⟨oc, od, kV, doc, pm, an, cdv, ct, osl, rfl, l, c⟩, k⟩
end
section
variable {X : Cx}
end
theorem iteF {A B : Prop} (h : B) : if false = true then A else B := by
  rw [if_neg Bool.false_ne_true]
  exact h
theorem iteT {A B : Prop} (h : A) : if true = true then A else B := by
  rw [if_pos rfl]
  exact h
def Same (H H' : Hp) : Prop := ∀ b o, H b = some o → H' b = some o
theorem Same.refl (H : Hp) : Same H H := fun _ _ h => h
theorem Same.trans {H H1 H2 : Hp} (a : Same H H1) (b : Same H1 H2) : Same H H2 := fun c o h => b c o (a c o h)
theorem Same.free {H H' : Hp} (e : Same H H') {l : Addr} (h : H' l = Option.none) : H l = Option.none := by
  cases q : H l with
  | none => rfl
  | some o =>
    rw [e l o q] at h
    cases h
theorem Same.seq {K : PySem.W.Frag} {H H' : Hp} {a : Addr} {xs : List V} (e : Same H H') (h : SqL K H a xs) : SqL K H' a xs := by
  rcases h with (h | ⟨o, h⟩) | h
  · exact .inl (.inl (e _ _ h))
  · exact .inl (.inr ⟨o, e _ _ h⟩)
  · exact .inr h
section
variable {κ : Type} [DecidableEq κ]
end
end L2
namespace DL
open PySem PySem.Spec PyProof.Rows L2
abbrev St := L2.St
inductive Dv where
  | d (x : PyData) | r (a : Addr)
inductive MO where
  | lst (xs : List Dv)
  | dK (kvs : List (Key × Dv))
  | gen (R : Hp → HO → Prop) (mo : ∀ I I' o, Same I I' → R I o → R I' o)
abbrev M := Addr → Option MO
abbrev Dn := List (Option Dv)
abbrev QD := Dv → M → Prop
abbrev TD := Dn → M → QD → Prop
abbrev TBd := Dn → M → (Bool → M → Prop) → Prop
abbrev TAd := Dn → M → (List Dv → M → Prop) → Prop
structure DEnds where
  nx : Dn → M → Prop
  rt : QD
  bk : Dn → M → Prop := fun _ _ => False
  ct : Dn → M → Prop := fun _ _ => False
abbrev TSd := DEnds → Dn → M → Prop
def setM (m : M) (a : Addr) (o : MO) : M := fun b => if b = a then some o else m b
theorem setM_same {m : M} {a : Addr} {o : MO} : setM m a o a = some o := by unfold setM; rw [if_pos rfl]
theorem setM_ne {m : M} {a b : Addr} {o : MO} (h : b ≠ a) : setM m a o b = m b := by unfold setM; rw [if_neg h]
section
variable (K : PySem.W.Frag)
def Is (I : Hp) (v : V) : Dv → Prop
  | .d x => Dp K I v x
  | .r a => v = .ref a
abbrev IsAll (I : Hp) : List V → List Dv → Prop := Paired (Is K I)
def MRel (I : Hp) : HO → MO → Prop
  | .lst vs, .lst ds => IsAll K I vs ds
  | .dK kvs, .dK es => Paired (fun (p : Key × V) (q : Key × Dv) => p.1 = q.1 ∧ Is K I p.2 q.2) kvs es
  | o, .gen R _ => R I o
  | _, _ => False
structure Ok (H I : Hp) (m : M) : Prop where
  im : ∀ a o, I a = some o → H a = some o
  dj : ∀ a o, I a = some o → m a = none
  mu : ∀ a q, m a = some q → ∃ o, H a = some o ∧ MRel K I o q
def Rl (I : Hp) (σ : St) (δ : Dn) : Prop := Paired (fun (v : Option V) (d : Option Dv) => ∀ x, d = some x → ∃ y, v = some y ∧ Is K I y x) σ δ
end
theorem SqT.same {K : PySem.W.Frag} {H H' : Hp} {a : Addr} {xs : List V} (e : Same H H') (h : SqT K H a xs) : SqT K H' a xs := by
  rcases h with (h | ⟨o, h⟩) | h
  · exact .inl (.inl (e _ _ h))
  · exact .inl (.inr ⟨o, e _ _ h⟩)
  · exact .inr h
mutual
theorem Dp.same {K : PySem.W.Frag} {H H' : Hp} (e : Same H H') : ∀ {v : V} {d : PyData}, Dp K H v d → Dp K H' v d
  | _, _, .non => .non
  | _, _, .bl b => .bl b
  | _, _, .int i => .int i
  | _, _, .str x => .str x
  | _, _, .lst h a => .lst (e.seq h) (DpAll.same e a)
  | _, _, .tup h a => .tup (SqT.same e h) (DpAll.same e a)
theorem DpAll.same {K : PySem.W.Frag} {H H' : Hp} (e : Same H H') : ∀ {v : List V} {d : List PyData}, DpAll K H v d → DpAll K H' v d
  | _, _, .nil => .nil
  | _, _, .cons h t => .cons (Dp.same e h) (DpAll.same e t)
end
section
variable {K : PySem.W.Frag} {I I' : Hp}
theorem Is.same (e : Same I I') {v : V} {d : Dv} (h : Is K I v d) : Is K I' v d := by
  cases d with
  | d x => exact Dp.same e h
  | r a => exact h
theorem paired_imp {α β : Type} {R S : α → β → Prop} (h : ∀ a b, R a b → S a b) : ∀ {xs : List α} {ys : List β}, Paired R xs ys → Paired S xs ys
  | _, _, .nil => .nil
  | _, _, .cons r t => .cons (h _ _ r) (paired_imp h t)
theorem IsAll.same (e : Same I I') {vs : List V} {ds : List Dv} (h : IsAll K I vs ds) : IsAll K I' vs ds := paired_imp (fun _ _ => Is.same e) h
theorem Rl.same (e : Same I I') {σ : St} {δ : Dn} (h : Rl K I σ δ) : Rl K I' σ δ := paired_imp (fun _ _ q x hx => let ⟨y, h1, h2⟩ := q x hx; ⟨y, h1, h2.same e⟩) h
theorem MRel.same (e : Same I I') {o : HO} {q : MO} (h : MRel K I o q) : MRel K I' o q := by
  cases q with
  | gen R mo => cases o <;> exact mo _ _ _ e h
  | lst ds => cases o <;> first | exact IsAll.same e h | exact h.elim
  | dK es => cases o <;> first | exact paired_imp (fun _ _ z => ⟨z.1, z.2.same e⟩) h | exact h.elim
theorem dpAll_of : ∀ {vs : List V} {xs : List PyData}, IsAll K I vs (xs.map Dv.d) → DpAll K I vs xs
  | _, [], h => by cases h; exact .nil
  | _, x :: xs, h => by
    cases h with
    | cons r t => exact .cons r (dpAll_of t)
theorem isAll_of : ∀ {vs : List V} {xs : List PyData}, DpAll K I vs xs → IsAll K I vs (xs.map Dv.d)
  | _, _, .nil => .nil
  | _, _, .cons h t => .cons h (isAll_of t)
theorem paired_get {α β : Type} {R : α → β → Prop} : ∀ {xs : List α} {ys : List β} {i : Nat} {y : β}, Paired R xs ys → ys[i]? = some y → ∃ x, xs[i]? = some x ∧ R x y
  | _, _, _, _, .nil, e => by simp at e
  | _, _, 0, _, .cons r _, e => by simp at e; subst e; exact ⟨_, rfl, r⟩
  | _, _, i + 1, y, .cons _ t, e => by
    obtain ⟨u, h1, h2⟩ := paired_get (i := i) (y := y) t (by simpa using e)
    exact ⟨u, by simpa using h1, h2⟩
theorem paired_len {α β : Type} {R : α → β → Prop} : ∀ {xs : List α} {ys : List β}, Paired R xs ys → xs.length = ys.length
  | _, _, .nil => rfl
  | _, _, .cons _ t => by simp [paired_len t]
theorem paired_set {α β : Type} {R : α → β → Prop} {a : α} {b : β} (r : R a b) : ∀ {xs : List α} {ys : List β} (i : Nat), Paired R xs ys → Paired R (xs.set i a) (ys.set i b)
  | _, _, _, .nil => .nil
  | _, _, 0, .cons _ t => .cons r t
  | _, _, i + 1, .cons q t => .cons q (paired_set r i t)
theorem paired_app {α β : Type} {R : α → β → Prop} : ∀ {xs xs' : List α} {ys ys' : List β}, Paired R xs ys → Paired R xs' ys' → Paired R (xs ++ xs') (ys ++ ys')
  | _, _, _, _, .nil, q => q
  | _, _, _, _, .cons r t, q => .cons r (paired_app t q)
theorem Rl.get {σ : St} {δ : Dn} {i : Nat} {x : Dv} (h : Rl K I σ δ) (e : δ[i]? = some (some x)) : ∃ y, σ[i]? = some (some y) ∧ Is K I y x := by
  obtain ⟨v, h1, h2⟩ := paired_get h e
  obtain ⟨y, rfl, h3⟩ := h2 x rfl
  exact ⟨y, h1, h3⟩
theorem Rl.set {σ : St} {δ : Dn} {v : V} {x : Dv} (h : Rl K I σ δ) (i : Nat) (q : Is K I v x) : Rl K I (σ.set i (some v)) (δ.set i (some x)) :=
  paired_set (fun y e => ⟨v, rfl, by cases e; exact q⟩) i h
end
def Qd (K : PySem.W.Frag) (I : Hp) (Q : QD) : VK := fun v H' => ∃ I' d m', Same I I' ∧ Ok K H' I' m' ∧ Is K I' v d ∧ Q d m'
def up (K : PySem.W.Frag) (t : TD) : TE := fun σ H Q => ∃ I δ m, Ok K H I m ∧ Rl K I σ δ ∧ t δ m (fun d m' => ∀ v H' I', Same I I' → Ok K H' I' m' → Is K I' v d → Q v H')
def upB (K : PySem.W.Frag) (t : TBd) : TT := fun σ H Q => ∃ I δ m, Ok K H I m ∧ Rl K I σ δ ∧ t δ m (fun b m' => ∀ H' I', Same I I' → Ok K H' I' m' → Q b H')
def upA (K : PySem.W.Frag) (t : TAd) : TA := fun σ H Q => ∃ I δ m, Ok K H I m ∧ Rl K I σ δ ∧ t δ m (fun ds m' => ∀ vs H' I', Same I I' → Ok K H' I' m' → IsAll K I' vs ds → Q vs H')
def low (K : PySem.W.Frag) (I : Hp) (D : Ends) : DEnds where
  nx := fun δ' m' => ∀ σ' H' I', Same I I' → Ok K H' I' m' → Rl K I' σ' δ' → D.nx σ' H'
  rt := fun d m' => ∀ v H' I', Same I I' → Ok K H' I' m' → Is K I' v d → D.rt v H'
  bk := fun δ' m' => ∀ σ' H' I', Same I I' → Ok K H' I' m' → Rl K I' σ' δ' → D.bk σ' H'
  ct := fun δ' m' => ∀ σ' H' I', Same I I' → Ok K H' I' m' → Rl K I' σ' δ' → D.ct σ' H'
def upS (K : PySem.W.Frag) (t : TSd) : TS := fun D σ H => ∃ I δ m, Ok K H I m ∧ Rl K I σ δ ∧ t (low K I D) δ m
structure DEnds.Le (D D' : DEnds) : Prop where
  nx : ∀ δ m, D.nx δ m → D'.nx δ m
  rt : ∀ d m, D.rt d m → D'.rt d m
  bk : ∀ δ m, D.bk δ m → D'.bk δ m
  ct : ∀ δ m, D.ct δ m → D'.ct δ m
theorem DEnds.Le.refl (D : DEnds) : D.Le D := ⟨fun _ _ h => h, fun _ _ h => h, fun _ _ h => h, fun _ _ h => h⟩
theorem low_le {K : PySem.W.Frag} {I I' : Hp} (e : Same I I') (D : Ends) : (low K I D).Le (low K I' D) :=
  ⟨fun _ _ h σ' H' J q => h σ' H' J (e.trans q), fun _ _ h σ' H' J q => h σ' H' J (e.trans q), fun _ _ h σ' H' J q => h σ' H' J (e.trans q), fun _ _ h σ' H' J q => h σ' H' J (e.trans q)⟩
abbrev Mo {α : Type} (t : Dn → M → (α → M → Prop) → Prop) : Prop := ∀ δ m (Q Q' : α → M → Prop), (∀ d m', Q d m' → Q' d m') → t δ m Q → t δ m Q'
abbrev MoS (t : TSd) : Prop := ∀ D D' δ m, DEnds.Le D D' → t D δ m → t D' δ m
structure DE (X : Cx) (e : Expr) (t : TD) : Prop where
  mono : Mo t
  pe : PE X e (up X.K t)
structure DT (X : Cx) (e : Expr) (t : TBd) : Prop where
  mono : Mo t
  pt : PT X e (upB X.K t)
structure DW (X : Cx) (e : Expr) (t : TBd) : Prop where
  mono : Mo t
  pw : PW X e (upB X.K t)
structure DA (X : Cx) (es : List Expr) (t : TAd) : Prop where
  mono : Mo t
  pa : PA X es (upA X.K t)
structure DS (X : Cx) (st : Stmt) (t : TSd) : Prop where
  mono : MoS t
  ps : PS X st (upS X.K t)
structure DSs (X : Cx) (st : List Stmt) (t : TSd) : Prop where
  mono : MoS t
  ps : PSs X st (upS X.K t)
theorem PE.imp {X : Cx} {e : Expr} {t t' : TE} (h : PE X e t) (i : ∀ σ H Q, t' σ H Q → t σ H Q) : PE X e t' := fun pins s σ H Q I q => h pins s σ H Q I (i σ H Q q)
theorem PT.imp {X : Cx} {e : Expr} {t t' : TT} (h : PT X e t) (i : ∀ σ H Q, t' σ H Q → t σ H Q) : PT X e t' := fun pins s σ H Q I q => h pins s σ H Q I (i σ H Q q)
theorem PW.imp {X : Cx} {e : Expr} {t t' : TT} (h : PW X e t) (i : ∀ σ H Q, t' σ H Q → t σ H Q) : PW X e t' := fun w pins s σ H Q I q => h w pins s σ H Q I (i σ H Q q)
theorem PA.imp {X : Cx} {e : List Expr} {t t' : TA} (h : PA X e t) (i : ∀ σ H Q, t' σ H Q → t σ H Q) : PA X e t' := fun p pins s σ H Q I q => h p pins s σ H Q I (i σ H Q q)
theorem PS.imp {X : Cx} {e : Stmt} {t t' : TS} (h : PS X e t) (i : ∀ D σ H, t' D σ H → t D σ H) : PS X e t' := fun pins s σ H D I q => h pins s σ H D I (i D σ H q)
theorem PSs.imp {X : Cx} {e : List Stmt} {t t' : TS} (h : PSs X e t) (i : ∀ D σ H, t' D σ H → t D σ H) : PSs X e t' := fun pins s σ H D I q => h pins s σ H D I (i D σ H q)
theorem de_of {X : Cx} {e : Expr} {tp : TE} {t : TD} (h : PE X e tp) (mo : Mo t)
    (i : ∀ σ H I δ m (Q : QD), Ok X.K H I m → Rl X.K I σ δ → t δ m Q → tp σ H (Qd X.K I Q)) : DE X e t := by
  refine ⟨mo, PE.imp (t := fun σ H Q => ∃ I δ m, Ok X.K H I m ∧ Rl X.K I σ δ ∧ t δ m (fun d m' => ∀ v H' I', Same I I' → Ok X.K H' I' m' → Is X.K I' v d → Q v H')) (fun pins s σ H Q J q => ?_) fun σ H Q q => q⟩
  obtain ⟨I, δ, m, o, r, q⟩ := q
  refine thn (h pins s σ H _ J (i σ H I δ m _ o r q)) fun u s' ⟨v, H', J', rv, I', d, m', sm, o', is, q'⟩ => ?_
  exact ⟨v, H', J', rv, q' v H' I' sm o' is⟩
section
variable {X : Cx} {pos : Pos}
def dVar (i : Nat) : TD := fun δ m Q => ∃ v, δ[i]? = some (some v) ∧ Q v m
def dC (x : PyData) : TD := fun _ m Q => Q (.d x) m
theorem mo_dVar (i : Nat) : Mo (dVar i) := fun _ _ _ _ h ⟨v, e, q⟩ => ⟨v, e, h _ _ q⟩
theorem mo_dC (x : PyData) : Mo (dC x) := fun _ _ _ _ h q => h _ _ q
theorem dv (i : Nat) {x : Str} (hN : X.N[i]? = some x := by rfl) (hv : Vis X.env.scope x := by first | exact Or.inl rfl | exact Or.inr (Or.inl rfl) | exact Or.inr (Or.inr rfl)) (hd : (x == ("__debug__" : Str)) = false := by decide)
    (hcd : (x == ("__classdict__" : Str)) = false := by decide) : DE X (.Name x pos) (dVar i) := by
  refine de_of (pe_var hN hv hd hcd) (mo_dVar i) fun σ H I δ m Q o r ⟨v, e, q⟩ => ?_
  obtain ⟨y, h1, h2⟩ := r.get e
  exact ⟨y, h1, I, v, m, Same.refl _, o, h2, q⟩
theorem de_const {e : Expr} {v : V} {x : PyData} (h : PE X e (tC v)) (hd : ∀ I, Dp X.K I v x) : DE X e (dC x) :=
  de_of h (mo_dC x) fun σ H I δ m Q o r q => ⟨I, .d x, m, Same.refl _, o, hd I, q⟩
theorem de_int {i j} : DE X (.Constant (.int i) j pos) (dC (.int i)) := de_const pe_int fun _ => .int i
theorem de_bl {b j} : DE X (.Constant (.bool b) j pos) (dC (.bool b)) := de_const pe_bl fun _ => .bl b
theorem de_non {j} : DE X (.Constant .none j pos) (dC .none) := de_const pe_non fun _ => .non
theorem de_str {x j} : DE X (.Constant (.str x) j pos) (dC (.str x)) := de_const pe_str fun _ => .str x
end
section
variable {X : Cx} {a b c : Expr} {ta tb tc : TD} {pos : Pos}
abbrev R2D := Dv → Dv → M → QD → Prop
abbrev Mo2 (r : R2D) : Prop := ∀ x y m (Q Q' : QD), (∀ d m', Q d m' → Q' d m') → r x y m Q → r x y m Q'
abbrev R1D := Dv → M → QD → Prop
abbrev Mo1 (r : R1D) : Prop := ∀ x m (Q Q' : QD), (∀ d m', Q d m' → Q' d m') → r x m Q → r x m Q'
abbrev RAD := List Dv → M → QD → Prop
abbrev MoA (r : RAD) : Prop := ∀ xs m (Q Q' : QD), (∀ d m', Q d m' → Q' d m') → r xs m Q → r xs m Q'
def dOp (rd : R2D) (ta tb : TD) : TD := fun δ m Q => ta δ m fun x m1 => tb δ m1 fun y m2 => rd x y m2 Q
def dUn (rd : R1D) (ta : TD) : TD := fun δ m Q => ta δ m fun x m1 => rd x m1 Q
structure Op2 (K : PySem.W.Frag) (r : R2) (rd : R2D) : Prop where
  mono : Mo2 rd
  ok : ∀ H I0 I m x y v w Q, Ok K H I m → Same I0 I → Is K I v x → Is K I w y → rd x y m Q → r v w H (Qd K I0 Q)
structure Op1 (K : PySem.W.Frag) (r : V → Hp → VK → Prop) (rd : R1D) : Prop where
  mono : Mo1 rd
  ok : ∀ H I0 I m x v Q, Ok K H I m → Same I0 I → Is K I v x → rd x m Q → r v H (Qd K I0 Q)
structure OpA (K : PySem.W.Frag) (r : List V → Hp → VK → Prop) (rd : RAD) : Prop where
  mono : MoA rd
  ok : ∀ H I0 I m xs vs Q, Ok K H I m → Same I0 I → IsAll K I vs xs → rd xs m Q → r vs H (Qd K I0 Q)
theorem mo_dOp {rd : R2D} (h : Mo2 rd) (ma : Mo ta) (mb : Mo tb) : Mo (dOp rd ta tb) := fun δ m Q Q' hq q =>
  ma δ m _ _ (fun x m1 q1 => mb δ m1 _ _ (fun y m2 q2 => h x y m2 Q Q' hq q2) q1) q
theorem mo_dUn {rd : R1D} (h : Mo1 rd) (ma : Mo ta) : Mo (dUn rd ta) := fun δ m Q Q' hq q =>
  ma δ m _ _ (fun x m1 q1 => h x m1 Q Q' hq q1) q
theorem lift2 {e : Expr} {r : R2} {rd : R2D} (h : PE X e (tOp r (up X.K ta) (up X.K tb))) (ha : DE X a ta) (hb : DE X b tb) (o : Op2 X.K r rd) : DE X e (dOp rd ta tb) := by
  refine de_of h (mo_dOp o.mono ha.mono hb.mono) fun σ H I δ m Q ok rl q => ?_
  refine ⟨I, δ, m, ok, rl, ha.mono δ m _ _ (fun x m1 q1 v1 H1 I1 s1 o1 i1 => ?_) q⟩
  refine ⟨I1, δ, m1, o1, rl.same s1, hb.mono δ m1 _ _ (fun y m2 q2 v2 H2 I2 s2 o2 i2 => ?_) q1⟩
  exact o.ok H2 I I2 m2 x y v1 v2 Q o2 (s1.trans s2) (i1.same s2) i2 q2
theorem lift1 {e : Expr} {r : V → Hp → VK → Prop} {rd : R1D} (h : PE X e (tUn r (up X.K ta))) (ha : DE X a ta) (o : Op1 X.K r rd) : DE X e (dUn rd ta) := by
  refine de_of h (mo_dUn o.mono ha.mono) fun σ H I δ m Q ok rl q => ?_
  refine ⟨I, δ, m, ok, rl, ha.mono δ m _ _ (fun x m1 q1 v1 H1 I1 s1 o1 i1 => ?_) q⟩
  exact o.ok H1 I I1 m1 x v1 Q o1 s1 i1 q1
theorem de_op {op : Operator} {r : R2} {rd : R2D} (ho : OpR X (binaryOp op) r) (o : Op2 X.K r rd) (ha : DE X a ta) (hb : DE X b tb) : DE X (.BinOp a op b pos) (dOp rd ta tb) := lift2 (pe_op ho ha.pe hb.pe) ha hb o
theorem de_un {op : UnaryOp} {r : V → Hp → VK → Prop} {rd : R1D} (ho : UnR X (unaryOp op) r) (o : Op1 X.K r rd) (ha : DE X a ta) : DE X (.UnaryOp op a pos) (dUn rd ta) := lift1 (pe_un ho ha.pe) ha o
theorem qd_same {K : PySem.W.Frag} {H I0 I : Hp} {m : M} {Q : QD} {v : V} {d : Dv} (ok : Ok K H I m) (s : Same I0 I) (h : Is K I v d) (q : Q d m) : Qd K I0 Q v H := ⟨I, d, m, s, ok, h, q⟩
theorem isI {K : PySem.W.Frag} {I : Hp} (i : Int) : Is K I (.int i) (.d (.int i)) := Dp.int i
theorem isB {K : PySem.W.Frag} {I : Hp} (i : Bool) : Is K I (.bl i) (.d (.bool i)) := Dp.bl i
theorem isS {K : PySem.W.Frag} {I : Hp} (i : Str) : Is K I (.str i) (.d (.str i)) := Dp.str i
theorem isN {K : PySem.W.Frag} {I : Hp} : Is K I .non (.d .none) := Dp.non
theorem Is.int {K : PySem.W.Frag} {I : Hp} {v : V} {i : Int} (h : Is K I v (.d (.int i))) : v = .int i := by cases (show Dp K I v (.int i) from h); rfl
theorem Is.str {K : PySem.W.Frag} {I : Hp} {v : V} {i : Str} (h : Is K I v (.d (.str i))) : v = .str i := by cases (show Dp K I v (.str i) from h); rfl
theorem Is.bl {K : PySem.W.Frag} {I : Hp} {v : V} {i : Bool} (h : Is K I v (.d (.bool i))) : v = .bl i := by cases (show Dp K I v (.bool i) from h); rfl
theorem Is.non {K : PySem.W.Frag} {I : Hp} {v : V} (h : Is K I v (.d .none)) : v = .non := by cases (show Dp K I v .none from h); rfl
def gI (C : Int → Int → Prop) (g : Int → Int → Int) : R2D
  | .d (.int i), .d (.int j), m, Q => C i j ∧ Q (.d (.int (g i j))) m
  | _, _, _, _ => False
def gI0 (g : Int → Int → Int) : R2D
  | .d (.int i), .d (.int j), m, Q => Q (.d (.int (g i j))) m
  | _, _, _, _ => False
def gB0 (g : Int → Int → Bool) : R2D
  | .d (.int i), .d (.int j), m, Q => Q (.d (.bool (g i j))) m
  | _, _, _, _ => False
theorem gI_inv {C : Int → Int → Prop} {g : Int → Int → Int} {x y : Dv} {m : M} {Q : QD} (h : gI C g x y m Q) : ∃ i j, x = .d (.int i) ∧ y = .d (.int j) ∧ C i j ∧ Q (.d (.int (g i j))) m := by
  unfold gI at h; split at h
  · exact ⟨_, _, rfl, rfl, h⟩
  · exact h.elim
theorem gI0_inv {g : Int → Int → Int} {x y : Dv} {m : M} {Q : QD} (h : gI0 g x y m Q) : ∃ i j, x = .d (.int i) ∧ y = .d (.int j) ∧ Q (.d (.int (g i j))) m := by
  unfold gI0 at h; split at h
  · exact ⟨_, _, rfl, rfl, h⟩
  · exact h.elim
theorem gB0_inv {g : Int → Int → Bool} {x y : Dv} {m : M} {Q : QD} (h : gB0 g x y m Q) : ∃ i j, x = .d (.int i) ∧ y = .d (.int j) ∧ Q (.d (.bool (g i j))) m := by
  unfold gB0 at h; split at h
  · exact ⟨_, _, rfl, rfl, h⟩
  · exact h.elim
theorem o2_I {K : PySem.W.Frag} {C : Int → Int → Prop} {g : Int → Int → Int} : Op2 K (rI C fun i j => .int (g i j)) (gI C g) := by
  refine ⟨fun x y m Q Q' h q => ?_, fun H I0 I m x y v w Q ok s hx hy q => ?_⟩
  · obtain ⟨i, j, rfl, rfl, c, q⟩ := gI_inv q
    exact ⟨c, h _ _ q⟩
  · obtain ⟨i, j, rfl, rfl, c, q⟩ := gI_inv q
    exact ⟨i, j, hx.int, hy.int, c, qd_same ok s (isI _) q⟩
theorem o2_I0 {K : PySem.W.Frag} {g : Int → Int → Int} : Op2 K (rI0 fun i j => .int (g i j)) (gI0 g) := by
  refine ⟨fun x y m Q Q' h q => ?_, fun H I0 I m x y v w Q ok s hx hy q => ?_⟩
  · obtain ⟨i, j, rfl, rfl, q⟩ := gI0_inv q
    exact h _ _ q
  · obtain ⟨i, j, rfl, rfl, q⟩ := gI0_inv q
    exact ⟨i, j, hx.int, hy.int, qd_same ok s (isI _) q⟩
theorem o2_B0 {K : PySem.W.Frag} {g : Int → Int → Bool} : Op2 K (rI0 fun i j => .bl (g i j)) (gB0 g) := by
  refine ⟨fun x y m Q Q' h q => ?_, fun H I0 I m x y v w Q ok s hx hy q => ?_⟩
  · obtain ⟨i, j, rfl, rfl, q⟩ := gB0_inv q
    exact h _ _ q
  · obtain ⟨i, j, rfl, rfl, q⟩ := gB0_inv q
    exact ⟨i, j, hx.int, hy.int, qd_same ok s (isB _) q⟩
def g1I (g : Int → Int) : R1D
  | .d (.int i), m, Q => Q (.d (.int (g i))) m
  | _, _, _ => False
theorem g1I_inv {g : Int → Int} {x : Dv} {m : M} {Q : QD} (h : g1I g x m Q) : ∃ i, x = .d (.int i) ∧ Q (.d (.int (g i))) m := by
  unfold g1I at h; split at h
  · exact ⟨_, rfl, h⟩
  · exact h.elim
theorem o1_I {K : PySem.W.Frag} {g : Int → Int} : Op1 K (rU fun i => .int (g i)) (g1I g) := by
  refine ⟨fun x m Q Q' h q => ?_, fun H I0 I m x v Q ok s hx q => ?_⟩
  · obtain ⟨i, rfl, q⟩ := g1I_inv q
    exact h _ _ q
  · obtain ⟨i, rfl, q⟩ := g1I_inv q
    exact ⟨i, hx.int, qd_same ok s (isI _) q⟩
theorem de_sub (ha : DE X a ta) (hb : DE X b tb) : DE X (.BinOp a .Sub b pos) (dOp (gI0 fun i j => i - j) ta tb) := de_op op_sub o2_I0 ha hb
theorem de_mul (ha : DE X a ta) (hb : DE X b tb) : DE X (.BinOp a .Mult b pos) (dOp (gI CMul fun i j => i * j) ta tb) := de_op op_mul o2_I ha hb
theorem de_mod (ha : DE X a ta) (hb : DE X b tb) : DE X (.BinOp a .Mod b pos) (dOp (gI (fun _ j => 0 < j) fun i j => i % j) ta tb) := de_op op_mod o2_I ha hb
def CDivB (i j : Int) : Prop := 0 < j ∧ j < 2 ^ 200
theorem op_fdivB : OpR X (binaryOp .FloorDiv) (rI CDivB fun i j => .int (i / j)) := opI fun i j _ _ _ _ _ hc q => by
  have h1 : (0 : Int) < j := hc.1
  have h2 : j < 2 ^ 200 := hc.2
  refine floordiv_int (by omega) (by rw [Int.fdiv_eq_ediv_of_nonneg i (by omega)]; exact q) (.inl (PyProof.noPylong_of_log2 ?_))
  have h3 : j.natAbs < 2 ^ 200 := by
    have e : (j.natAbs : Int) = j := by omega
    have : ((j.natAbs : Nat) : Int) < ((2 ^ 200 : Nat) : Int) := by rw [e]; exact h2
    exact Int.ofNat_lt.mp this
  have h4 : j.natAbs ≠ 0 := by omega
  have := (Nat.log2_lt h4).mpr h3
  omega
theorem de_fdiv (ha : DE X a ta) (hb : DE X b tb) : DE X (.BinOp a .FloorDiv b pos) (dOp (gI CDivB fun i j => i / j) ta tb) := de_op op_fdivB o2_I ha hb
theorem de_pow (ha : DE X a ta) (hb : DE X b tb) : DE X (.BinOp a .Pow b pos) (dOp (gI CPow fun i j => i ^ j.toNat) ta tb) := de_op op_pow o2_I ha hb
theorem de_shl (ha : DE X a ta) (hb : DE X b tb) : DE X (.BinOp a .LShift b pos) (dOp (gI CPow fun i j => i * 2 ^ j.toNat) ta tb) := de_op op_shl o2_I ha hb
theorem de_neg (ha : DE X a ta) : DE X (.UnaryOp .USub a pos) (dUn (g1I fun i => -i) ta) := de_un un_neg o1_I ha
end
end DL
namespace DL
open PySem PySem.Spec PyProof.Rows L2
section
variable {X : Cx} {a b c : Expr} {ta tb tc : TD} {pos : Pos}
def isBool : Dv → M → (Bool → M → Prop) → Prop
  | .d (.bool b), m, Q => Q b m
  | _, _, _ => False
theorem isBool_inv {x : Dv} {m : M} {Q : Bool → M → Prop} (h : isBool x m Q) : ∃ b, x = .d (.bool b) ∧ Q b m := by
  unfold isBool at h; split at h
  · exact ⟨_, rfl, h⟩
  · exact h.elim
theorem isBool_mono {x : Dv} {m : M} {Q Q' : Bool → M → Prop} (hq : ∀ b m, Q b m → Q' b m) (h : isBool x m Q) : isBool x m Q' := by
  obtain ⟨b, rfl, q⟩ := isBool_inv h
  exact hq _ _ q
def dTest (t : TD) : TBd := fun δ m Q => t δ m fun x m1 => isBool x m1 Q
theorem mo_dTest {t : TD} (h : Mo t) : Mo (dTest t) := fun δ m Q Q' hq q => h δ m _ _ (fun _ _ z => isBool_mono hq z) q
theorem dt_of {e : Expr} {tp : TT} {t : TBd} (h : PT X e tp) (mo : Mo t)
    (i : ∀ σ H I δ m (Q : Bool → M → Prop), Ok X.K H I m → Rl X.K I σ δ → t δ m Q → tp σ H (fun b H' => ∃ I' m', Same I I' ∧ Ok X.K H' I' m' ∧ Q b m')) : DT X e t := by
  refine ⟨mo, fun pins s σ H Q J q => ?_⟩
  obtain ⟨I, δ, m, o, r, q⟩ := q
  refine thn (h pins s σ H _ J (i σ H I δ m _ o r q)) fun u s' ⟨H', J', I', m', sm, o', q'⟩ => ?_
  exact ⟨H', J', q' H' I' sm o'⟩
theorem dw_of {e : Expr} {tp : TT} {t : TBd} (h : PW X e tp) (mo : Mo t)
    (i : ∀ σ H I δ m (Q : Bool → M → Prop), Ok X.K H I m → Rl X.K I σ δ → t δ m Q → tp σ H (fun b H' => ∃ I' m', Same I I' ∧ Ok X.K H' I' m' ∧ Q b m')) : DW X e t := by
  refine ⟨mo, fun wh pins s σ H Q J q => ?_⟩
  obtain ⟨I, δ, m, o, r, q⟩ := q
  refine thn (h wh pins s σ H _ J (i σ H I δ m _ o r q)) fun u s' ⟨H', J', I', m', sm, o', q'⟩ => ?_
  exact ⟨H', J', q' H' I' sm o'⟩
theorem dt_val {e : Expr} {t : TD} (h : DE X e t) (he : ∀ whole, isTrue e X.env whole = (do let v ← whole; standAt e.pos; holding [v] (truthy v)) := by intro _; rfl) : DT X e (dTest t) := by
  refine dt_of (pt_val h.pe he) (mo_dTest h.mono) fun σ H I δ m Q ok rl q => ?_
  refine ⟨I, δ, m, ok, rl, h.mono δ m _ _ (fun x m1 q1 v1 H1 I1 s1 o1 i1 => ?_) q⟩
  obtain ⟨b, rfl, q1⟩ := isBool_inv q1
  exact ⟨b, i1.bl, I1, m1, s1, o1, q1⟩
theorem de_cmp {op : CmpOp} {r : R2} {rd : R2D} (ho : OpR X (compareOp op) r) (o : Op2 X.K r rd) (ha : DE X a ta) (hb : DE X b tb) (hm : behindInMarks op b = false) : DE X (.Compare a [op] [b] pos) (dOp rd ta tb) :=
  lift2 (pe_cmpR ho ha.pe hb.pe hm) ha hb o
theorem dt_cmp {op : CmpOp} {r : R2} {rd : R2D} (ho : OpR X (compareOp op) r) (o : Op2 X.K r rd) (ha : DE X a ta) (hb : DE X b tb) (hm : behindInMarks op b = false) : DT X (.Compare a [op] [b] pos) (dTest (dOp rd ta tb)) := by
  have mo := mo_dOp o.mono ha.mono hb.mono
  refine dt_of (tp := tTest (tOp (fun x y H Q => ∃ I0 I m dx dy QD, Ok X.K H I m ∧ Same I0 I ∧ Is X.K I x dx ∧ Is X.K I y dy ∧ rd dx dy m QD ∧ ∀ z H', Qd X.K I0 QD z H' → Q z H') (up X.K ta) (up X.K tb))) ?_ (mo_dTest mo) fun σ H I δ m Q ok rl q => ?_
  · refine pt_cmpR (fun pins s σ H x y v u Q J rx ry h => ?_) ha.pe hb.pe hm
    obtain ⟨I0, I, m, dx, dy, QD, ok, s1, ix, iy, h, k⟩ := h
    refine thn (ho pins s σ H x y v u _ J rx ry (o.ok H I0 I m dx dy x y QD ok s1 ix iy h)) fun u s' ⟨z, H', J', rz, q⟩ => ⟨z, H', J', rz, k z H' q⟩
  · refine ⟨I, δ, m, ok, rl, ha.mono δ m _ _ (fun x m1 q1 v1 H1 I1 s1 o1 i1 => ?_) q⟩
    refine ⟨I1, δ, m1, o1, rl.same s1, hb.mono δ m1 _ _ (fun y m2 q2 v2 H2 I2 s2 o2 i2 => ?_) q1⟩
    refine ⟨I, I2, m2, x, y, _, o2, s1.trans s2, i1.same s2, i2, q2, fun z H' ⟨I', d, m', sm, o', is, qb⟩ => ?_⟩
    obtain ⟨k, rfl, qb⟩ := isBool_inv qb
    exact ⟨k, is.bl, I', m', sm, o', qb⟩
def dAnd (t u : TBd) : TBd := fun δ m Q => t δ m fun c m1 => if c = true then u δ m1 Q else Q false m1
def dOr (t u : TBd) : TBd := fun δ m Q => t δ m fun c m1 => if c = true then Q true m1 else u δ m1 Q
def dNot (t : TBd) : TBd := fun δ m Q => t δ m fun c m1 => Q (!c) m1
theorem mo_dAnd {t u : TBd} (ht : Mo t) (hu : Mo u) : Mo (dAnd t u) := fun δ m Q Q' hq q => ht δ m _ _ (fun c m1 z => by
  cases c with
  | true => exact iteT (hu δ m1 Q Q' hq (by simpa using z))
  | false => exact iteF (hq _ _ (by simpa using z))) q
theorem mo_dOr {t u : TBd} (ht : Mo t) (hu : Mo u) : Mo (dOr t u) := fun δ m Q Q' hq q => ht δ m _ _ (fun c m1 z => by
  cases c with
  | true => exact iteT (hq _ _ (by simpa using z))
  | false => exact iteF (hu δ m1 Q Q' hq (by simpa using z))) q
theorem mo_dNot {t : TBd} (ht : Mo t) : Mo (dNot t) := fun δ m Q Q' hq q => ht δ m _ _ (fun c m1 z => hq _ _ z) q
variable {tA tB' : TBd} {rest : List Expr}
theorem DW.dt (h : DW X a tA) : DT X a tA := ⟨h.mono, h.pw.pt⟩
theorem dw_and1 (ha : DT X a tA) : DW X (.BoolOp .And [a] pos) tA := ⟨ha.mono, pw_and1 ha.pt⟩
theorem dw_or1 (ha : DT X a tA) : DW X (.BoolOp .Or [a] pos) tA := ⟨ha.mono, pw_or1 ha.pt⟩
theorem dw_and (ha : DT X a tA) (hb : DW X (.BoolOp .And (b :: rest) pos) tB') : DW X (.BoolOp .And (a :: b :: rest) pos) (dAnd tA tB') := by
  refine dw_of (pw_and ha.pt hb.pw) (mo_dAnd ha.mono hb.mono) fun σ H I δ m Q ok rl q => ?_
  refine ⟨I, δ, m, ok, rl, ha.mono δ m _ _ (fun c m1 q1 H1 I1 s1 o1 => ?_) q⟩
  cases c with
  | false => exact iteF ⟨I1, m1, s1, o1, by simpa using q1⟩
  | true =>
    refine iteT ⟨I1, δ, m1, o1, rl.same s1, hb.mono δ m1 _ _ (fun c2 m2 q2 H2 I2 s2 o2 => ?_) (show tB' δ m1 Q by simpa using q1)⟩
    exact ⟨I2, m2, s1.trans s2, o2, q2⟩
theorem dw_or (ha : DT X a tA) (hb : DW X (.BoolOp .Or (b :: rest) pos) tB') : DW X (.BoolOp .Or (a :: b :: rest) pos) (dOr tA tB') := by
  refine dw_of (pw_or ha.pt hb.pw) (mo_dOr ha.mono hb.mono) fun σ H I δ m Q ok rl q => ?_
  refine ⟨I, δ, m, ok, rl, ha.mono δ m _ _ (fun c m1 q1 H1 I1 s1 o1 => ?_) q⟩
  cases c with
  | true => exact iteT ⟨I1, m1, s1, o1, by simpa using q1⟩
  | false =>
    refine iteF ⟨I1, δ, m1, o1, rl.same s1, hb.mono δ m1 _ _ (fun c2 m2 q2 H2 I2 s2 o2 => ?_) (show tB' δ m1 Q by simpa using q1)⟩
    exact ⟨I2, m2, s1.trans s2, o2, q2⟩
theorem dt_not (ha : DT X a tA) : DT X (.UnaryOp .Not a pos) (dNot tA) := by
  refine dt_of (pt_not ha.pt) (mo_dNot ha.mono) fun σ H I δ m Q ok rl q => ?_
  exact ⟨I, δ, m, ok, rl, ha.mono δ m _ _ (fun c m1 q1 H1 I1 s1 o1 => ⟨I1, m1, s1, o1, q1⟩) q⟩
def dAndV (ta tb : TD) : TD := fun δ m Q => ta δ m fun x m1 => isBool x m1 fun c m1 => if c = true then tb δ m1 Q else Q (.d (.bool false)) m1
def dOrV (ta tb : TD) : TD := fun δ m Q => ta δ m fun x m1 => isBool x m1 fun c m1 => if c = true then Q (.d (.bool true)) m1 else tb δ m1 Q
def dNotV (ta : TD) : TD := fun δ m Q => ta δ m fun x m1 => isBool x m1 fun c m1 => Q (.d (.bool (!c))) m1
theorem mo_dAndV (ht : Mo ta) (hu : Mo tb) : Mo (dAndV ta tb) := fun δ m Q Q' hq q => ht δ m _ _ (fun c m1 z => isBool_mono (fun c m1 z => by
  cases c with
  | true => exact iteT (hu δ m1 Q Q' hq (by simpa using z))
  | false => exact iteF (hq _ _ (by simpa using z))) z) q
theorem mo_dNotV (ht : Mo ta) : Mo (dNotV ta) := fun δ m Q Q' hq q => ht δ m _ _ (fun c m1 z => isBool_mono (fun c m1 z => hq _ _ z) z) q
theorem de_one {op} (h : DE X a ta) : DE X (.BoolOp op [a] pos) ta := ⟨h.mono, pe_one h.pe⟩
theorem de_and (ha : DE X a ta) (hb : DE X (.BoolOp .And (b :: rest) pos) tb) : DE X (.BoolOp .And (a :: b :: rest) pos) (dAndV ta tb) := by
  refine de_of (pe_and ha.pe hb.pe) (mo_dAndV ha.mono hb.mono) fun σ H I δ m Q ok rl q => ?_
  refine ⟨I, δ, m, ok, rl, ha.mono δ m _ _ (fun x m1 q1 v1 H1 I1 s1 o1 i1 => ?_) q⟩
  obtain ⟨c, rfl, q3⟩ := isBool_inv q1
  clear q1
  refine ⟨c, i1.bl, ?_⟩
  cases c with
  | false => exact iteF (qd_same o1 s1 (isB _) (by simpa using q3))
  | true =>
    refine iteT ⟨I1, δ, m1, o1, rl.same s1, hb.mono δ m1 _ _ (fun x2 m2 q2 v2 H2 I2 s2 o2 i2 => ?_) (show tb δ m1 Q by simpa using q3)⟩
    exact qd_same o2 (s1.trans s2) i2 q2
theorem de_not (ha : DE X a ta) : DE X (.UnaryOp .Not a pos) (dNotV ta) := by
  refine de_of (pe_not ha.pe) (mo_dNotV ha.mono) fun σ H I δ m Q ok rl q => ?_
  refine ⟨I, δ, m, ok, rl, ha.mono δ m _ _ (fun x m1 q1 v1 H1 I1 s1 o1 i1 => ?_) q⟩
  obtain ⟨c, rfl, q1⟩ := isBool_inv q1
  exact ⟨c, i1.bl, qd_same o1 s1 (isB _) q1⟩
def dIf (t : TBd) (ta tb : TD) : TD := fun δ m Q => t δ m fun c m1 => if c = true then ta δ m1 Q else tb δ m1 Q
def dChain (r r' : R2D) (ta tb tc : TD) : TD := fun δ m Q => ta δ m fun x m1 => tb δ m1 fun y m2 => r x y m2 fun z m3 => isBool z m3 fun k m3 => if k = true then tc δ m3 fun w m4 => r' y w m4 Q else Q (.d (.bool false)) m3
def gEqD : R2D
  | .d x, .d y, m, Q => SeqAt.shaped x = true ∧ SeqAt.shaped y = true ∧ Q (.d (.bool (PyData.eqv x y))) m
  | _, _, _, _ => False
def gNeD : R2D
  | .d x, .d y, m, Q => SeqAt.shaped x = true ∧ SeqAt.shaped y = true ∧ Q (.d (.bool (!PyData.eqv x y))) m
  | _, _, _, _ => False
theorem Dp.up {K : PySem.W.Frag} {H I : Hp} {m : M} (ok : Ok K H I m) {v : V} {x : PyData} (h : Dp K I v x) : Dp K H v x := Dp.same ok.im h
theorem o2_eqD {K : PySem.W.Frag} : Op2 K (rEqD K) gEqD := by
  refine ⟨fun x y m Q Q' h q => ?_, fun H I0 I m x y v w Q ok s hx hy q => ?_⟩
  · cases x <;> cases y <;> first | exact q.elim | exact ⟨q.1, q.2.1, h _ _ q.2.2⟩
  · cases x <;> cases y <;> first | exact q.elim | exact ⟨_, _, Dp.up ok hx, Dp.up ok hy, q.1, q.2.1, qd_same ok s (isB _) q.2.2⟩
theorem o2_neD {K : PySem.W.Frag} : Op2 K (rNeD K) gNeD := by
  refine ⟨fun x y m Q Q' h q => ?_, fun H I0 I m x y v w Q ok s hx hy q => ?_⟩
  · cases x <;> cases y <;> first | exact q.elim | exact ⟨q.1, q.2.1, h _ _ q.2.2⟩
  · cases x <;> cases y <;> first | exact q.elim | exact ⟨_, _, Dp.up ok hx, Dp.up ok hy, q.1, q.2.1, qd_same ok s (isB _) q.2.2⟩
theorem de_eq {k : Nat} (hr : Room k X.A) (ha : DE X a ta) (hb : DE X b tb) : DE X (.Compare a [.Eq] [b] pos) (dOp gEqD ta tb) := de_cmp (op_eqD hr.units) o2_eqD ha hb (nomark _)
theorem dt_eq {k : Nat} (hr : Room k X.A) (ha : DE X a ta) (hb : DE X b tb) : DT X (.Compare a [.Eq] [b] pos) (dTest (dOp gEqD ta tb)) := dt_cmp (op_eqD hr.units) o2_eqD ha hb (nomark _)
theorem dt_ne {k : Nat} (hr : Room k X.A) (ha : DE X a ta) (hb : DE X b tb) : DT X (.Compare a [.NotEq] [b] pos) (dTest (dOp gNeD ta tb)) := dt_cmp (op_neD hr.units) o2_neD ha hb (nomark _)
theorem dt_lt (ha : DE X a ta) (hb : DE X b tb) : DT X (.Compare a [.Lt] [b] pos) (dTest (dOp (gB0 fun i j => decide (i < j)) ta tb)) := dt_cmp op_lt o2_B0 ha hb (nomark _)
theorem dt_le (ha : DE X a ta) (hb : DE X b tb) : DT X (.Compare a [.LtE] [b] pos) (dTest (dOp (gB0 fun i j => decide (i ≤ j)) ta tb)) := dt_cmp op_le o2_B0 ha hb (nomark _)
theorem dt_gt (ha : DE X a ta) (hb : DE X b tb) : DT X (.Compare a [.Gt] [b] pos) (dTest (dOp (gB0 fun i j => decide (j < i)) ta tb)) := dt_cmp op_gt o2_B0 ha hb (nomark _)
theorem dt_ge (ha : DE X a ta) (hb : DE X b tb) : DT X (.Compare a [.GtE] [b] pos) (dTest (dOp (gB0 fun i j => decide (j ≤ i)) ta tb)) := dt_cmp op_ge o2_B0 ha hb (nomark _)
end
section
variable {X : Cx} {e : Expr} {es : List Expr} {te : TD} {t : TAd} {pos : Pos}
def dNil : TAd := fun _ m Q => Q [] m
def dCons (ta : TD) (tr : TAd) : TAd := fun δ m Q => ta δ m fun x m1 => tr δ m1 fun xs m2 => Q (x :: xs) m2
theorem mo_dNil : Mo dNil := fun _ _ _ _ h q => h _ _ q
theorem mo_dCons {ta : TD} {tr : TAd} (h1 : Mo ta) (h2 : Mo tr) : Mo (dCons ta tr) := fun δ m Q Q' hq q => h1 δ m _ _ (fun x m1 q1 => h2 δ m1 _ _ (fun xs m2 q2 => hq _ _ q2) q1) q
theorem da_of {tp : TA} {t : TAd} (h : PA X es tp) (mo : Mo t)
    (i : ∀ σ H I δ m (Q : List Dv → M → Prop), Ok X.K H I m → Rl X.K I σ δ → t δ m Q → tp σ H (fun vs H' => ∃ I' ds m', Same I I' ∧ Ok X.K H' I' m' ∧ IsAll X.K I' vs ds ∧ Q ds m')) : DA X es t := by
  refine ⟨mo, fun p pins s σ H Q J q => ?_⟩
  obtain ⟨I, δ, m, o, r, q⟩ := q
  refine thn (h p pins s σ H _ J (i σ H I δ m _ o r q)) fun u s' ⟨vs, H', J', rv, I', ds, m', sm, o', is, q'⟩ => ?_
  exact ⟨vs, H', J', rv, q' vs H' I' sm o' is⟩
theorem da_nil : DA X [] dNil := da_of pa_nil mo_dNil fun σ H I δ m Q ok rl q => ⟨I, [], m, Same.refl _, ok, .nil, q⟩
theorem da_cons (ha : DE X e te) (hr : DA X es t) (hs : starEach (e :: es) X.env = (false, eval e X.env) :: starEach es X.env := by rfl) : DA X (e :: es) (dCons te t) := by
  refine da_of (pa_cons ha.pe hr.pa hs) (mo_dCons ha.mono hr.mono) fun σ H I δ m Q ok rl q => ?_
  refine ⟨I, δ, m, ok, rl, ha.mono δ m _ _ (fun x m1 q1 v1 H1 I1 s1 o1 i1 => ?_) q⟩
  refine ⟨I1, δ, m1, o1, rl.same s1, hr.mono δ m1 _ _ (fun xs m2 q2 vs H2 I2 s2 o2 i2 => ?_) q1⟩
  exact ⟨I2, x :: xs, m2, s1.trans s2, o2, .cons (i1.same s2) i2, q2⟩
theorem Ok.new {K : PySem.W.Frag} {H I : Hp} {m : M} (ok : Ok K H I m) {p : Addr} {o : HO} (hp : H p = none) : Ok K (upd H p o) (upd I p o) m := by
  have hm : m p = none := by
    cases e : m p with
    | none => rfl
    | some q => obtain ⟨o', h, _⟩ := ok.mu p q e; rw [hp] at h; cases h
  have hI : I p = none := by
    cases e : I p with
    | none => rfl
    | some q => have := ok.im p q e; rw [hp] at this; cases this
  have sm : Same I (upd I p o) := fun b u e => by rw [upd_ne (ne_of_none e hI)]; exact e
  refine ⟨fun a u e => ?_, fun a u e => ?_, fun a q e => ?_⟩
  · by_cases h : a = p
    · subst h; rw [upd_same] at e ⊢; exact e
    · rw [upd_ne h] at e ⊢; exact ok.im a u e
  · by_cases h : a = p
    · subst h; exact hm
    · rw [upd_ne h] at e; exact ok.dj a u e
  · have h : a ≠ p := fun z => by subst z; rw [hm] at e; cases e
    obtain ⟨u, h1, h2⟩ := ok.mu a q e
    exact ⟨u, by rw [upd_ne h]; exact h1, h2.same sm⟩
theorem same_new {H I : Hp} {p : Addr} {o : HO} (hI : I p = none) : Same I (upd I p o) := fun b u e => by rw [upd_ne (ne_of_none e hI)]; exact e
theorem Ok.free {K : PySem.W.Frag} {H I : Hp} {m : M} (ok : Ok K H I m) {p : Addr} (hp : H p = none) : I p = none := by
  cases e : I p with
  | none => rfl
  | some q => have := ok.im p q e; rw [hp] at this; cases this
theorem Ok.freeM {K : PySem.W.Frag} {H I : Hp} {m : M} (ok : Ok K H I m) {p : Addr} (hp : H p = none) : m p = none := by
  cases e : m p with
  | none => rfl
  | some q => obtain ⟨o', h, _⟩ := ok.mu p q e; rw [hp] at h; cases h
theorem Ok.newM {K : PySem.W.Frag} {H I : Hp} {m : M} (ok : Ok K H I m) {p : Addr} {o : HO} {q : MO} (hp : H p = none) (r : MRel K I o q) : Ok K (upd H p o) I (setM m p q) := by
  have hI := ok.free hp
  refine ⟨fun a u e => ?_, fun a u e => ?_, fun a z e => ?_⟩
  · rw [upd_ne (ne_of_none e hI)]; exact ok.im a u e
  · rw [setM_ne (ne_of_none e hI)]; exact ok.dj a u e
  · by_cases h : a = p
    · subst h; rw [setM_same] at e; cases e; exact ⟨o, upd_same, r⟩
    · rw [setM_ne h] at e; obtain ⟨u, h1, h2⟩ := ok.mu a z e; exact ⟨u, by rw [upd_ne h]; exact h1, h2⟩
theorem Ok.put {K : PySem.W.Frag} {H I : Hp} {m : M} (ok : Ok K H I m) {p : Addr} {o : HO} {q q0 : MO} (hp : m p = some q0) (r : MRel K I o q) : Ok K (upd H p o) I (setM m p q) := by
  have hI : I p = none := by
    cases e : I p with
    | none => rfl
    | some u => have := ok.dj p u e; rw [hp] at this; cases this
  refine ⟨fun a u e => ?_, fun a u e => ?_, fun a z e => ?_⟩
  · rw [upd_ne (ne_of_none e hI)]; exact ok.im a u e
  · rw [setM_ne (ne_of_none e hI)]; exact ok.dj a u e
  · by_cases h : a = p
    · subst h; rw [setM_same] at e; cases e; exact ⟨o, upd_same, r⟩
    · rw [setM_ne h] at e; obtain ⟨u, h1, h2⟩ := ok.mu a z e; exact ⟨u, by rw [upd_ne h]; exact h1, h2⟩
def datas : List Dv → Option (List PyData)
  | [] => some []
  | .d x :: r => (datas r).map (x :: ·)
  | .r _ :: _ => none
theorem datas_map : ∀ {ds : List Dv} {xs : List PyData}, datas ds = some xs → ds = xs.map .d
  | [], xs, h => by cases h; rfl
  | .d x :: r, xs, h => by
    simp only [datas] at h
    cases e : datas r with
    | none => rw [e] at h; cases h
    | some ys => rw [e] at h; cases h; simp [datas_map e]
  | .r _ :: _, _, h => by cases h
def dTup (t : TAd) : TD := fun δ m Q => t δ m fun ds m1 => ds.length ≤ sizeLine ∧ ∃ xs, datas ds = some xs ∧ Q (.d (.tuple xs)) m1
def dLst (t : TAd) : TD := fun δ m Q => t δ m fun ds m1 => ds.length ≤ sizeLine ∧ ∃ xs, datas ds = some xs ∧ Q (.d (.list xs)) m1
def dLstM (t : TAd) : TD := fun δ m Q => t δ m fun ds m1 => ds.length ≤ sizeLine ∧ ∀ p, m1 p = none → Q (.r p) (setM m1 p (.lst ds))
theorem mo_dTup (h : Mo t) : Mo (dTup t) := fun δ m Q Q' hq q => h δ m _ _ (fun ds m1 ⟨l, xs, e, z⟩ => ⟨l, xs, e, hq _ _ z⟩) q
theorem mo_dLst (h : Mo t) : Mo (dLst t) := fun δ m Q Q' hq q => h δ m _ _ (fun ds m1 ⟨l, xs, e, z⟩ => ⟨l, xs, e, hq _ _ z⟩) q
theorem mo_dLstM (h : Mo t) : Mo (dLstM t) := fun δ m Q Q' hq q => h δ m _ _ (fun ds m1 ⟨l, z⟩ => ⟨l, fun p hp => hq _ _ (z p hp)⟩) q
theorem de_tup {x1} (h : DA X es t) : DE X (.Tuple es x1 pos) (dTup t) := by
  refine de_of (pe_tup h.pa) (mo_dTup h.mono) fun σ H I δ m Q ok rl q => ?_
  refine ⟨I, δ, m, ok, rl, h.mono δ m _ _ (fun ds m1 q1 vs H1 I1 s1 o1 i1 => ?_) q⟩
  obtain ⟨hl, xs, e, q1⟩ := q1
  have e' := datas_map e
  subst e'
  refine ⟨by rw [paired_len i1]; exact hl, fun p hp => ?_⟩
  have fI := o1.free hp
  exact ⟨upd I1 p (.tup vs), .d (.tuple xs), m1, s1.trans (same_new (H := H1) fI), o1.new hp, Dp.tup (SqT.of upd_same) (DpAll.same (same_new (H := H1) fI) (dpAll_of i1)), q1⟩
theorem de_lst (h : DA X es t) : DE X (.List es pos) (dLst t) := by
  refine de_of (pe_lst h.pa) (mo_dLst h.mono) fun σ H I δ m Q ok rl q => ?_
  refine ⟨I, δ, m, ok, rl, h.mono δ m _ _ (fun ds m1 q1 vs H1 I1 s1 o1 i1 => ?_) q⟩
  obtain ⟨hl, xs, e, q1⟩ := q1
  have e' := datas_map e
  subst e'
  refine ⟨by rw [paired_len i1]; exact hl, fun p hp => ?_⟩
  have fI := o1.free hp
  exact ⟨upd I1 p (.lst vs), .d (.list xs), m1, s1.trans (same_new (H := H1) fI), o1.new hp, Dp.lst (SqL.of upd_same) (DpAll.same (same_new (H := H1) fI) (dpAll_of i1)), q1⟩
theorem de_lstM (h : DA X es t) : DE X (.List es pos) (dLstM t) := by
  refine de_of (pe_lst h.pa) (mo_dLstM h.mono) fun σ H I δ m Q ok rl q => ?_
  refine ⟨I, δ, m, ok, rl, h.mono δ m _ _ (fun ds m1 q1 vs H1 I1 s1 o1 i1 => ?_) q⟩
  obtain ⟨hl, q1⟩ := q1
  refine ⟨by rw [paired_len i1]; exact hl, fun p hp => ?_⟩
  exact ⟨I1, .r p, setM m1 p (.lst ds), s1, o1.newM hp i1, rfl, q1 p (o1.freeM hp)⟩
abbrev FD := List Dv → M → QD → Prop
def spD (K : PySem.W.Frag) (F : FD) : Sp := fun vs H Q _ => ∃ I ds m, Ok K H I m ∧ IsAll K I vs ds ∧ F ds m (fun d m' => ∀ v H' I', Same I I' → Ok K H' I' m' → Is K I' v d → Q v H')
def dCall (F : FD) (t : TAd) : TD := fun δ m Q => t δ m fun ds m1 => F ds m1 Q
theorem mo_dCall {F : FD} (hF : MoA F) (h : Mo t) : Mo (dCall F t) := fun δ m Q Q' hq q => h δ m _ _ (fun ds m1 z => hF ds m1 Q Q' hq z) q
theorem de_call {k : Nat} {f : Addr} {fd : FuncData} {ps : List Str} {F : FD} {x : Str} {p : Pos} (hF : MoA F) (G : FnOk X.prog X.w X.K X.mg X.base CX0 k f fd ps (spD X.K F)) (hr : Room k X.A) (hg : Gl X x) (hm : X.mg x = some (.ref f)) (hk : PySem.W.keepIn X.K (.ref f) = true) (hb : Binds X.K fd ps [])
    (ha : DA X (e :: es) t) (hdb : (x == ("__debug__" : Str)) = false := by decide) (he : starEach (e :: es) X.env = (false, eval e X.env) :: starEach es X.env := by rfl)
    (hpl : (backTo pos (starEach es X.env)).any (·.1) = false := by rfl) : DE X (.Call (.Name x p) (e :: es) [] pos) (dCall F t) := by
  refine de_of (pe_call (hdb := hdb) (he := he) (hpl := hpl) G hr hg hm hk hb .nil pass0 ha.pa) (mo_dCall hF ha.mono) fun σ H I δ m Q ok rl q => ?_
  refine ⟨I, δ, m, ok, rl, ha.mono δ m _ _ (fun ds m1 q1 vs H1 I1 s1 o1 i1 => ?_) q⟩
  show spD X.K F (vs ++ []) H1 (Qd X.K I Q) E0
  rw [List.append_nil]
  exact ⟨I1, ds, m1, o1, i1, hF ds m1 _ _ (fun d m2 q2 v H2 I2 s2 o2 i2 => qd_same o2 (s1.trans s2) i2 q2) q1⟩
theorem liftA {e0 : Expr} {r : List V → Hp → VK → Prop} {rd : RAD} (h : PE X e0 (tCB r (upA X.K t))) (ha : Mo t) (o : OpA X.K r rd) : DE X e0 (fun δ m Q => t δ m fun ds m1 => rd ds m1 Q) := by
  refine de_of h (fun δ m Q Q' hq q => ha δ m _ _ (fun ds m1 z => o.mono ds m1 Q Q' hq z) q) fun σ H I δ m Q ok rl q => ?_
  refine ⟨I, δ, m, ok, rl, ha δ m _ _ (fun ds m1 q1 vs H1 I1 s1 o1 i1 => ?_) q⟩
  exact o.ok H1 I I1 m1 ds vs Q o1 s1 i1 q1
def dCB (rd : RAD) (t : TAd) : TD := fun δ m Q => t δ m fun ds m1 => rd ds m1 Q
theorem de_callB {x : Str} {p : Pos} {id : String} {r : List V → Hp → VK → Prop} {rd : RAD} (hc : CallR X (.builtin id) r) (o : OpA X.K r rd) (hg : Gl X x) (hm : X.mg x = none) (hv : bootBuiltins x = some (.builtin id)) (ha : DA X (e :: es) t) (hn : x ≠ "__name__" := by decide) (hdb : (x == ("__debug__" : Str)) = false := by decide)
    (he : starEach (e :: es) X.env = (false, eval e X.env) :: starEach es X.env := by rfl) (hpl : (backTo pos (starEach es X.env)).any (·.1) = false := by rfl) : DE X (.Call (.Name x p) (e :: es) [] pos) (dCB rd t) :=
  liftA (pe_callB hc hg hm hv ha.pa hn hdb he hpl) ha.mono o
theorem de_callTy {x : Str} {p : Pos} {T : String} {r : List V → Hp → VK → Prop} {rd : RAD} (hc : CallR X (.type T) r) (o : OpA X.K r rd) (hg : Gl X x) (hm : X.mg x = none) (hv : bootBuiltins x = some (.type T)) (ha : DA X (e :: es) t) (hn : x ≠ "__name__" := by decide) (hdb : (x == ("__debug__" : Str)) = false := by decide)
    (he : starEach (e :: es) X.env = (false, eval e X.env) :: starEach es X.env := by rfl) (hpl : (backTo pos (starEach es X.env)).any (·.1) = false := by rfl) : DE X (.Call (.Name x p) (e :: es) [] pos) (dCB rd t) :=
  liftA (pe_callTy hc hg hm hv ha.pa hn hdb he hpl) ha.mono o
end
section
variable {X : Cx} {st : Stmt} {rest : List Stmt} {t u : TSd} {e : Expr} {te : TD} {pos : Pos}
theorem ds_of {st : Stmt} {tp : TS} {t : TSd} (h : PS X st tp) (mo : MoS t) (i : ∀ σ H I δ m D, Ok X.K H I m → Rl X.K I σ δ → t (low X.K I D) δ m → tp D σ H) : DS X st t :=
  ⟨mo, PS.imp h fun D σ H ⟨I, δ, m, ok, rl, q⟩ => i σ H I δ m D ok rl q⟩
theorem dss_of {st : List Stmt} {tp : TS} {t : TSd} (h : PSs X st tp) (mo : MoS t) (i : ∀ σ H I δ m D, Ok X.K H I m → Rl X.K I σ δ → t (low X.K I D) δ m → tp D σ H) : DSs X st t :=
  ⟨mo, PSs.imp h fun D σ H ⟨I, δ, m, ok, rl, q⟩ => i σ H I δ m D ok rl q⟩
def sNext : TSd := fun D δ m => D.nx δ m
def sSeq (t u : TSd) : TSd := fun D δ m => t { D with nx := u D } δ m
theorem mo_sSeq (h1 : MoS t) (h2 : MoS u) : MoS (sSeq t u) := fun D D' δ m l q => h1 { D with nx := u D } { D' with nx := u D' } δ m ⟨fun δ m z => h2 D D' δ m l z, l.rt, l.bk, l.ct⟩ q
theorem dss_nil : DSs X [] sNext := dss_of pss_nil (fun _ _ _ _ l q => l.nx _ _ q) fun σ H I δ m D ok rl q => q σ H I (Same.refl _) ok rl
theorem dss_cons (h1 : DS X st t) (h2 : DSs X rest u) : DSs X (st :: rest) (sSeq t u) := by
  refine dss_of (pss_cons h1.ps h2.ps) (mo_sSeq h1.mono h2.mono) fun σ H I δ m D ok rl q => ?_
  refine ⟨I, δ, m, ok, rl, h1.mono { low X.K I D with nx := u (low X.K I D) } _ δ m ⟨fun δ' m' z σ' H' I' s' o' r' => ⟨I', δ', m', o', r', h2.mono _ _ δ' m' (low_le s' D) z⟩, fun _ _ z => z, fun _ _ z => z, fun _ _ z => z⟩ q⟩
theorem dss_one (h1 : DS X st t) : DSs X [st] t := ⟨h1.mono, pss_one h1.ps⟩
def sNever : TSd := fun _ _ _ => False
theorem ds_never : DS X st sNever := ds_of ps_never (fun _ _ _ _ _ q => q) fun _ _ _ _ _ _ _ _ q => q
def sDrop (te : TD) : TSd := fun D δ m => te δ m fun _ m1 => D.nx δ m1
theorem ds_expr (he : DE X e te) (hs : swapsWith e none pos.line X.env = pure false := by rfl) : DS X (.Expr e pos) (sDrop te) := by
  refine ds_of (ps_expr he.pe hs) (fun D D' δ m l q => he.mono δ m _ _ (fun _ _ z => l.nx _ _ z) q) fun σ H I δ m D ok rl q => ?_
  exact ⟨I, δ, m, ok, rl, he.mono δ m _ _ (fun d m1 q1 v H1 I1 s1 o1 i1 => q1 σ H1 I1 s1 o1 (rl.same s1)) q⟩
def sRet (te : TD) : TSd := fun D δ m => te δ m D.rt
theorem ds_ret (he : DE X e te) : DS X (.Return (some e) pos) (sRet te) := by
  refine ds_of (ps_ret he.pe) (fun D D' δ m l q => he.mono δ m _ _ (fun _ _ z => l.rt _ _ z) q) fun σ H I δ m D ok rl q => ?_
  exact ⟨I, δ, m, ok, rl, he.mono δ m _ _ (fun d m1 q1 v H1 I1 s1 o1 i1 => q1 v H1 I1 s1 o1 i1) q⟩
def sIf (c : TBd) (t u : TSd) : TSd := fun D δ m => c δ m fun b m1 => if b = true then t D δ m1 else u D δ m1
theorem ds_if {c : Expr} {a b : List Stmt} {tc : TBd} (hc : DT X c tc) (ha : DSs X a t) (hb : DSs X b u) : DS X (.If c a b pos) (sIf tc t u) := by
  refine ds_of (ps_if hc.pt ha.ps hb.ps) (fun D D' δ m l q => hc.mono δ m _ _ (fun b m1 z => ?_) q) fun σ H I δ m D ok rl q => ?_
  · cases b with
    | true => exact iteT (ha.mono D D' δ m1 l (by simpa using z))
    | false => exact iteF (hb.mono D D' δ m1 l (by simpa using z))
  · refine ⟨I, δ, m, ok, rl, hc.mono δ m _ _ (fun b m1 q1 H1 I1 s1 o1 => ?_) q⟩
    cases b with
    | true => exact iteT ⟨I1, δ, m1, o1, rl.same s1, ha.mono _ _ δ m1 (low_le s1 D) (by simpa using q1)⟩
    | false => exact iteF ⟨I1, δ, m1, o1, rl.same s1, hb.mono _ _ δ m1 (low_le s1 D) (by simpa using q1)⟩
abbrev TGd := Dv → Dn → M → (Dn → M → Prop) → Prop
structure DG (X : Cx) (tg : Expr) (t : TGd) : Prop where
  mono : ∀ x δ m (Q Q' : Dn → M → Prop), (∀ δ m, Q δ m → Q' δ m) → t x δ m Q → t x δ m Q'
  pg : PG X tg (fun v σ H Q => ∃ I δ m x, Ok X.K H I m ∧ Rl X.K I σ δ ∧ Is X.K I v x ∧ t x δ m (fun δ' m' => ∀ σ' H' I', Same I I' → Ok X.K H' I' m' → Rl X.K I' σ' δ' → Q σ' H'))
def dgName (i : Nat) : TGd := fun x δ m Q => Q (δ.set i (some x)) m
theorem PG.imp {tg : Expr} {t t' : TG} (h : PG X tg t) (i : ∀ v σ H Q, t' v σ H Q → t v σ H Q) : PG X tg t' := fun pins s σ H v u Q J r q => h pins s σ H v u Q J r (i v σ H Q q)
theorem dg_name {i : Nat} {x : Str} (hN : X.N.Nodup) (hi : X.N[i]? = some x) (hx : Loc X.env.scope x) (hf : X.fn x = true ∨ X.env.scope.names.lookup x = some .local := by first | exact .inl rfl | exact .inr rfl | assumption) : DG X (.Name x pos) (dgName i) :=
  ⟨fun _ _ _ _ _ h q => h _ _ q, PG.imp (pg_name hN hi hx hf) fun v σ H Q ⟨I, δ, m, x, ok, rl, is, q⟩ => q _ H I (Same.refl _) ok (rl.set i is)⟩
abbrev TGds := List Dv → Dn → M → (Dn → M → Prop) → Prop
structure DGs (X : Cx) (ts : List Expr) (t : TGds) : Prop where
  mono : ∀ x δ m (Q Q' : Dn → M → Prop), (∀ δ m, Q δ m → Q' δ m) → t x δ m Q → t x δ m Q'
  pgs : PGs X ts (fun vs σ H Q => ∃ I δ m xs, Ok X.K H I m ∧ Rl X.K I σ δ ∧ IsAll X.K I vs xs ∧ t xs δ m (fun δ' m' => ∀ σ' H' I', Same I I' → Ok X.K H' I' m' → Rl X.K I' σ' δ' → Q σ' H'))
def dgNil : TGds := fun xs δ m Q => xs = [] ∧ Q δ m
def dgCons (t : TGd) (u : TGds) : TGds
  | x :: r, δ, m, Q => t x δ m fun δ' m' => u r δ' m' Q
  | [], _, _, _ => False
theorem PGs.imp {ts : List Expr} {t t' : TGs} (h : PGs X ts t) (i : ∀ v σ H Q, t' v σ H Q → t v σ H Q) : PGs X ts t' := fun pins s σ H v u Q J r q => h pins s σ H v u Q J r (i v σ H Q q)
theorem dgs_nil : DGs X [] dgNil := ⟨fun _ _ _ _ _ h ⟨e, q⟩ => ⟨e, h _ _ q⟩, PGs.imp pgs_nil fun vs σ H Q ⟨I, δ, m, xs, ok, rl, is, e, q⟩ => by
  subst e; cases is; exact ⟨rfl, q σ H I (Same.refl _) ok rl⟩⟩
theorem dgs_cons {e : Expr} {es : List Expr} {t : TGd} {u : TGds} (h1 : DG X e t) (h2 : DGs X es u)
    (hs : (assignEach (e :: es) X.env).map (·.2) = assign e X.env :: (assignEach es X.env).map (·.2) := by rfl) : DGs X (e :: es) (dgCons t u) := by
  refine ⟨fun xs δ m Q Q' h q => ?_, PGs.imp (pgs_cons h1.pg h2.pgs hs) fun vs σ H Q ⟨I, δ, m, xs, ok, rl, is, q⟩ => ?_⟩
  · cases xs with
    | nil => exact q.elim
    | cons x r => exact h1.mono x δ m _ _ (fun δ' m' z => h2.mono r δ' m' Q Q' h z) q
  · cases xs with
    | nil => exact q.elim
    | cons x r =>
      cases is with
      | cons i1 ir =>
        refine ⟨_, _, rfl, I, δ, m, x, ok, rl, i1, h1.mono x δ m _ _ (fun δ' m' z σ' H' I' s' o' r' => ?_) q⟩
        exact ⟨I', δ', m', r, o', r', IsAll.same s' ir, h2.mono r δ' m' _ _ (fun δ2 m2 z2 σ2 H2 I2 s2 o2 r2 => z2 σ2 H2 I2 (s'.trans s2) o2 r2) z⟩
def dgTup (n : Nat) (t : TGds) : TGd
  | .d (.tuple xs), δ, m, Q => xs.length = n ∧ t (xs.map .d) δ m Q
  | _, _, _, _ => False
theorem dg_tup {es : List Expr} {k : Nat} {t : TGds} {n : Nat} (hc : X.calm = true) (h : DGs X es t)
    (hn : (assignEach es X.env).length = n := by rfl) (hst : (assignEach es X.env).findIdx? (·.1) = none := by rfl) : DG X (.Tuple es k pos) (dgTup n t) := by
  have inv : ∀ {x δ m Q}, dgTup n t x δ m Q → ∃ xs, x = .d (.tuple xs) ∧ xs.length = n ∧ t (xs.map .d) δ m Q := fun {x δ m Q} q => by
    unfold dgTup at q; split at q
    · exact ⟨_, rfl, q⟩
    · exact q.elim
  refine ⟨fun x δ m Q Q' hq q => ?_, PG.imp (pg_tup hc h.pgs hn hst) fun v σ H Q ⟨I, δ, m, x, ok, rl, is, q⟩ => ?_⟩
  · obtain ⟨xs, rfl, hl, q⟩ := inv q
    exact ⟨hl, h.mono _ δ m Q Q' hq q⟩
  · obtain ⟨xs, rfl, hl, q⟩ := inv q
    cases (show Dp X.K I v (.tuple xs) from is) with
    | tup sq al =>
      exact ⟨_, _, rfl, SqT.same ok.im sq, by rw [paired_len (isAll_of al), List.length_map]; exact hl, I, δ, m, _, ok, rl, isAll_of al, q⟩
def sAsg (te : TD) (g : TGd) : TSd := fun D δ m => te δ m fun x m1 => g x δ m1 D.nx
theorem mo_sAsg {te : TD} {g : TGd} (h : Mo te) (hg : ∀ x δ m (Q Q' : Dn → M → Prop), (∀ δ m, Q δ m → Q' δ m) → g x δ m Q → g x δ m Q') : MoS (sAsg te g) := fun D D' δ m l q => h δ m _ _ (fun x m1 z => hg x δ m1 _ _ l.nx z) q
theorem ds_asg {tg e : Expr} {te : TD} {g : TGd} (he : DE X e te) (hg : DG X tg g) (hs : swapsWithSole [tg] e pos.line X.env = pure false := by rfl) (hw : swappedStores [tg] e X.env = pure none := by rfl)
    (h1 : (assignEach [tg] X.env).map (·.2) = [assign tg X.env] := by rfl) : DS X (.Assign [tg] e pos) (sAsg te g) := by
  refine ds_of (ps_asg he.pe hg.pg hs hw h1) (mo_sAsg he.mono hg.mono) fun σ H I δ m D ok rl q => ?_
  refine ⟨I, δ, m, ok, rl, he.mono δ m _ _ (fun x m1 q1 v H1 I1 s1 o1 i1 => ?_) q⟩
  exact ⟨I1, δ, m1, x, o1, rl.same s1, i1, hg.mono x δ m1 _ _ (fun δ2 m2 z σ2 H2 I2 s2 o2 r2 => z σ2 H2 I2 (s1.trans s2) o2 r2) q1⟩
theorem ds_set {i : Nat} {x : Str} {e : Expr} {te : TD} {pos' : Pos} (hN : X.N.Nodup) (hi : X.N[i]? = some x) (hx : Loc X.env.scope x) (he : DE X e te) (hs : swapsWith e (some (.Name x pos')) pos.line X.env = pure false := by rfl) (hf : X.fn x = true ∨ X.env.scope.names.lookup x = some .local := by first | exact .inl rfl | exact .inr rfl | assumption) :
    DS X (.Assign [.Name x pos'] e pos) (sAsg te (dgName i)) := by
  refine ds_of (ps_set hN hi hx he.pe hs hf) (mo_sAsg he.mono fun _ _ _ _ _ h q => h _ _ q) fun σ H I δ m D ok rl q => ?_
  exact ⟨I, δ, m, ok, rl, he.mono δ m _ _ (fun x m1 q1 v H1 I1 s1 o1 i1 => q1 _ H1 I1 s1 o1 ((rl.same s1).set i i1)) q⟩
def sWhile (c : TBd) (tb : TSd) : TSd := fun D δ m => ∃ W : Nat → Dn → M → Prop, (∃ n, W n δ m) ∧ ∀ n δ m, W n δ m →
  c δ m fun b m1 => if b = true then ∃ N : Dn → M → Prop, (∀ δ' m', N δ' m' → ∃ n', n' < n ∧ W n' δ' m') ∧ tb { D with nx := N, ct := N, bk := D.nx } δ m1 else D.nx δ m1
theorem ds_while {c : Expr} {body : List Stmt} {tc : TBd} {tb : TSd} (hp : PassesOwn (model X.prog X.w) X.A X.env X.xe) (hc : DT X c tc) (hb : DSs X body tb) : DS X (.While c body [] pos) (sWhile tc tb) := by
  refine ds_of (ps_while hp hc.pt hb.ps) (fun D D' δ m l ⟨W, w0, q⟩ => ⟨W, w0, fun n δ m w => hc.mono δ m _ _ (fun b m1 z => ?_) (q n δ m w)⟩) fun σ H I δ m D ok rl ⟨W, ⟨n0, w0⟩, q⟩ => ?_
  · cases b with
    | true =>
      obtain ⟨N, hN, z⟩ : ∃ N : Dn → M → Prop, (∀ δ' m', N δ' m' → ∃ n', n' < n ∧ W n' δ' m') ∧ tb { D with nx := N, ct := N, bk := D.nx } δ m1 := by simpa using z
      exact iteT ⟨N, hN, hb.mono { D with nx := N, ct := N, bk := D.nx } _ δ m1 ⟨fun _ _ z => z, l.rt, l.nx, fun _ _ z => z⟩ z⟩
    | false => exact iteF (l.nx _ _ (by simpa using z))
  · refine ⟨fun n σ' H' => ∃ I' δ' m', Same I I' ∧ Ok X.K H' I' m' ∧ Rl X.K I' σ' δ' ∧ W n δ' m', ⟨n0, I, δ, m, Same.refl _, ok, rl, w0⟩, ?_⟩
    rintro n σ1 H1 ⟨I1, δ1, m1, s1, o1, r1, w1⟩
    refine ⟨I1, δ1, m1, o1, r1, hc.mono δ1 m1 _ _ (fun b m2 z H2 I2 s2 o2 => ?_) (q n δ1 m1 w1)⟩
    cases b with
    | true =>
      obtain ⟨N, hN, z⟩ : ∃ N : Dn → M → Prop, (∀ δ' m', N δ' m' → ∃ n', n' < n ∧ W n' δ' m') ∧ tb { low X.K I D with nx := N, ct := N, bk := (low X.K I D).nx } δ1 m2 := by simpa using z
      have fin : ∀ δ' m', N δ' m' → ∀ σ' H' I', Same I2 I' → Ok X.K H' I' m' → Rl X.K I' σ' δ' → ∃ n', n' < n ∧ ∃ I' δ' m', Same I I' ∧ Ok X.K H' I' m' ∧ Rl X.K I' σ' δ' ∧ W n' δ' m' := fun δ' m' hn σ' H' I' s' o' r' => by
        obtain ⟨n', hl, w'⟩ := hN δ' m' hn
        exact ⟨n', hl, I', δ', m', (s1.trans s2).trans s', o', r', w'⟩
      refine iteT ⟨fun σ' H' => ∃ n', n' < n ∧ ∃ I' δ' m', Same I I' ∧ Ok X.K H' I' m' ∧ Rl X.K I' σ' δ' ∧ W n' δ' m', fun σ' H' z => z, I2, δ1, m2, o2, r1.same s2, ?_⟩
      refine hb.mono { low X.K I D with nx := N, ct := N, bk := (low X.K I D).nx } _ δ1 m2 ⟨fun δ' m' hn => fin δ' m' hn, fun d m' z v H' I' s' => z v H' I' ((s1.trans s2).trans s'), fun δ' m' z σ' H' I' s' => z σ' H' I' ((s1.trans s2).trans s'), fun δ' m' hn => fin δ' m' hn⟩ z
    | false => exact iteF ((show (low X.K I D).nx δ1 m2 by simpa using z) σ1 H2 I2 (s1.trans s2) o2 (r1.same s2))
end
end DL
namespace DL
open PySem PySem.Spec PyProof.Rows L2
section
variable {P : Program} {w : World} {K : PySem.W.Frag} {mg : Str → Option Value} {base : Heap}
def startD (N : List Str) (ds : List Dv) : Dn := ds.map some ++ List.replicate (N.length - ds.length) none
theorem rl_start {I : Hp} {N : List Str} {vs : List V} {ds : List Dv} (h : IsAll K I vs ds) : Rl K I (L2.start N vs) (startD N ds) := by
  unfold L2.start startD
  rw [paired_len h]
  refine paired_app ?_ ?_
  · have go : ∀ {vs : List V} {ds : List Dv}, IsAll K I vs ds → Paired (fun (v : Option V) (d : Option Dv) => ∀ x, d = some x → ∃ y, v = some y ∧ Is K I y x) (vs.map some) (ds.map some) := by
      intro vs ds h
      induction h with
      | nil => exact .nil
      | cons r t ih => exact .cons (fun x e => ⟨_, rfl, by cases e; exact r⟩) ih
    exact go h
  · have go : ∀ n : Nat, Paired (fun (v : Option V) (d : Option Dv) => ∀ x, d = some x → ∃ y, v = some y ∧ Is K I y x) (List.replicate n none) (List.replicate n none) := by
      intro n
      induction n with
      | zero => exact .nil
      | succ n ih => exact .cons (fun x e => by cases e) ih
    exact go _
theorem Fun.okD {x qual : Str} {st : Stmt} {f : Addr} {fd : FuncData} {N ps : List Str} {k : Nat} {F : FD} (G : Fun K x qual st f fd) (S : FnScope N ps (defScope st)) (hF : MoA F) (len : ∀ ds m Q, F ds m Q → ds.length = ps.length)
    (hbody : ∀ (cdv : Value) (A : Around) (outer : List Env) (s : Shared) (H : Hp) (E : XK), Room k (A.deeper (envOfC qual (defScope st) s.heap.objs.size f cdv)) →
      ∃ t, DSs (cxOf CX0 P w K mg base N qual (defScope st) f cdv A outer s H E).nox (defBody st) t ∧ ∀ ds m Q, F ds m Q → t { nx := fun _ m' => Q (.d .none) m', rt := Q } (startD N ds) m) : FnOk P w K mg base CX0 (k + 1) f fd ps (spD K F) := by
  refine G.ok S (fun vs H Q E h => ?_) (fun cdv A outer s H vs Q E hr h => ?_)
  · obtain ⟨I, ds, m, ok, is, q⟩ := h
    rw [paired_len is]
    exact len ds m _ q
  · obtain ⟨I, ds, m, ok, is, q⟩ := h
    obtain ⟨t, ht, hq⟩ := hbody cdv A outer s H E hr
    refine ⟨_, ht.ps, I, startD N ds, m, ok, rl_start is, ?_⟩
    refine ht.mono { nx := fun _ m' => ∀ v H' I', Same I I' → Ok K H' I' m' → Is K I' v (.d .none) → Q v H', rt := fun d m' => ∀ v H' I', Same I I' → Ok K H' I' m' → Is K I' v d → Q v H' } _ _ _ ⟨fun _ m' z σ' H' I' s' o' _ => z _ H' I' s' o' isN, fun _ _ z => z, fun _ _ z => z.elim, fun _ _ z => z.elim⟩ (hq ds m _ q)
end
structure ItD (K : PySem.W.Frag) (J : It) (xs : List Dv) (still : M → Prop) (I : Hp) : Prop where
  go : ∀ i H I' m, Same I I' → Ok K H I' m → still m → i < xs.length → J.go i H
  yld : ∀ i H I' m x H', Same I I' → Ok K H I' m → still m → J.yld i H x H' → ∃ I'' d, Same I' I'' ∧ Ok K H' I'' m ∧ (i < xs.length → xs[i]? = some d ∧ Is K I'' x d)
  stop : ∀ H I' m, Same I I' → Ok K H I' m → still m → J.stop xs.length H
abbrev TId := Dn → M → (List Dv → (M → Prop) → M → Prop) → Prop
abbrev MoI (w : TId) : Prop := ∀ δ m (R R' : List Dv → (M → Prop) → M → Prop), (∀ xs st m, R xs st m → R' xs st m) → w δ m R → w δ m R'
def upI (K : PySem.W.Frag) (w : TId) : TI := fun σ H R => ∃ I δ m, Ok K H I m ∧ Rl K I σ δ ∧ w δ m (fun xs still m' => ∀ J H' I', Same I I' → Ok K H' I' m' → ItD K J xs still I' → R J H')
structure DI (X : Cx) (tg iter : Expr) (w : TId) : Prop where
  mono : MoI w
  pi : PI X tg iter (upI X.K w)
theorem PI.imp {X : Cx} {tg e : Expr} {t t' : TI} (h : PI X tg e t) (i : ∀ σ H Q, t' σ H Q → t σ H Q) : PI X tg e t' := fun pins s σ H Q I q => h pins s σ H Q I (i σ H Q q)
section
variable {X : Cx} {tg : Expr} {pos : Pos}
def dRng1 (ta : TAd) : TId := fun δ m R => ta δ m fun ds m1 => ∃ j : Int, ds = [.d (.int j)] ∧ (-(2 ^ 62) ≤ j ∧ j < 2 ^ 62) ∧ R ((List.range j.toNat).map fun i => .d (.int ((i : Nat) : Int))) (fun _ => True) m1
theorem di_range1 {a : Expr} {ta : TAd} {p : Pos} (hg : Gl X "range") (hm : X.mg "range" = none) (ha : DA X [a] ta) (hs : starEach [a] X.env = [(false, eval a X.env)] := by rfl) : DI X tg (.Call (.Name "range" p) [a] [] pos) (dRng1 ta) := by
  refine ⟨fun δ m R R' h q => ha.mono δ m _ _ (fun ds m1 ⟨j, e, b, z⟩ => ⟨j, e, b, h _ _ _ z⟩) q, PI.imp (pi_range1 hg hm ha.pa hs) fun σ H R ⟨I, δ, m, ok, rl, q⟩ => ?_⟩
  refine ⟨I, δ, m, ok, rl, ha.mono δ m _ _ (fun ds m1 ⟨j, e, b, z⟩ vs H1 I1 s1 o1 i1 => ?_) q⟩
  subst e
  cases i1 with
  | cons h1 ht =>
    cases ht
    have h1 := h1.int
    subst h1
    refine ⟨j, rfl, b.1, b.2, z _ H1 I1 s1 o1 ⟨fun i H I' m _ _ _ hi => ?_, fun i H I' m x H' _ ok' _ y => ?_, fun H I' m _ _ _ => ?_⟩⟩
    · show i < j.toNat
      simpa [-Int.lt_toNat] using hi
    · obtain ⟨rfl, rfl⟩ := y
      refine ⟨I', .d (.int (i : Nat)), Same.refl _, ok', fun hi => ⟨?_, ?_⟩⟩
      · rw [List.length_map, List.length_range] at hi
        rw [List.getElem?_map, List.getElem?_range hi]; rfl
      · rw [Int.zero_add]; exact isI _
    · show j.toNat ≤ _
      simp
def dItL (tl : TD) : TId := fun δ m R => tl δ m fun x m1 => ∃ xs, x = .d (.list xs) ∧ R (xs.map .d) (fun _ => True) m1
theorem di_list {l : Expr} {tl : TD} (hl : DE X l tl) : DI X tg l (dItL tl) := by
  refine ⟨fun δ m R R' h q => hl.mono δ m _ _ (fun x m1 ⟨xs, e, z⟩ => ⟨xs, e, h _ _ _ z⟩) q, PI.imp (pi_list hl.pe) fun σ H R ⟨I, δ, m, ok, rl, q⟩ => ?_⟩
  refine ⟨I, δ, m, ok, rl, hl.mono δ m _ _ (fun x m1 ⟨xs, e, z⟩ v H1 I1 s1 o1 i1 => ?_) q⟩
  subst e
  cases (show Dp X.K I1 v (.list xs) from i1) with
  | @lst a vs _ sq al =>
    refine ⟨a, rfl, ⟨vs, Same.seq o1.im sq⟩, z _ H1 I1 s1 o1 ⟨fun i H I' m s' o' _ hi => ?_, fun i H I' m x H' s' o' _ y => ?_, fun H I' m s' o' _ => ?_⟩⟩
    · rw [List.length_map, ← List.length_map (f := Dv.d), ← paired_len (isAll_of al)] at hi
      exact ⟨vs, vs[i], Same.seq (s'.trans o'.im) sq, by simp [hi]⟩
    · obtain ⟨rfl, y⟩ := y
      have hx := y vs (Same.seq (s'.trans o'.im) sq)
      have hb : i < vs.length := (List.getElem?_eq_some_iff.mp hx).1
      have hb2 : i < (xs.map Dv.d).length := by rw [← paired_len (isAll_of al)]; exact hb
      obtain ⟨v', h1, h2⟩ := paired_get (isAll_of al) (List.getElem?_eq_getElem hb2)
      rw [hx] at h1; cases h1
      exact ⟨I', _, Same.refl _, o', fun _ => ⟨List.getElem?_eq_getElem hb2, h2.same s'⟩⟩
    · exact ⟨vs, Same.seq (s'.trans o'.im) sq, by rw [paired_len (isAll_of al)]; exact Nat.le_refl _⟩
theorem Ok.lst {K : PySem.W.Frag} {H I : Hp} {m : M} {a : Addr} {xs : List Dv} (ok : Ok K H I m) (h : m a = some (.lst xs)) : ∃ vs, H a = some (.lst vs) ∧ IsAll K I vs xs := by
  obtain ⟨o, h1, h2⟩ := ok.mu a _ h
  cases o <;> first | exact h2.elim | exact ⟨_, h1, h2⟩
def sFor (w : TId) (g : TGd) (tb : TSd) : TSd := fun D δ m => w δ m fun xs still m1 => ∃ Pv : Nat → Dn → M → Prop, Pv 0 δ m1 ∧ (∀ i δ m, Pv i δ m → still m) ∧
  (∀ i x δ m, xs[i]? = some x → Pv i δ m → g x δ m fun δ2 m2 => tb { D with nx := Pv (i + 1), ct := Pv (i + 1), bk := D.nx } δ2 m2) ∧ ∀ δ m, Pv xs.length δ m → D.nx δ m
theorem ds_for {iter : Expr} {body : List Stmt} {w : TId} {g : TGd} {tb : TSd} (hp : PassesOwn (model X.prog X.w) X.A X.env X.xe) (hc : X.calm = true) (hi : DI X tg iter w) (hg : DG X tg g) (hb : DSs X body tb)
    (hs : ∀ x, foldedSetIterable iter X.env x = pure x := by intro _; rfl) : DS X (.For tg iter body [] pos) (sFor w g tb) := by
  refine ds_of (ps_for hp hc hi.pi hg.pg hb.ps hs) (fun D D' δ m l q => hi.mono δ m _ _ (fun xs st m1 ⟨Pv, p0, ps, pt, pd⟩ => ⟨Pv, p0, ps, fun i x δ m hx p => hg.mono x δ m _ _ (fun δ2 m2 z => hb.mono { D with nx := Pv (i + 1), ct := Pv (i + 1), bk := D.nx } _ δ2 m2 ⟨fun _ _ z => z, l.rt, l.nx, fun _ _ z => z⟩ z) (pt i x δ m hx p), fun δ m p => l.nx _ _ (pd δ m p)⟩) q) fun σ H I δ m D ok rl q => ?_
  refine ⟨I, δ, m, ok, rl, hi.mono δ m _ _ (fun xs st m1 ⟨Pv, p0, ps, pt, pd⟩ J H1 I1 s1 o1 it => ?_) q⟩
  refine ⟨fun i n σ' H' => n = xs.length - i ∧ i ≤ xs.length ∧ ∃ I' δ' m', Same I1 I' ∧ Ok X.K H' I' m' ∧ Rl X.K I' σ' δ' ∧ Pv i δ' m', ⟨xs.length, by simp, Nat.zero_le _, I1, δ, m1, Same.refl _, o1, rl.same s1, p0⟩, ?_⟩
  rintro i n σ2 H2 ⟨rfl, hi2, I2, δ2, m2, s2, o2, r2, p2⟩
  have st2 := ps i δ2 m2 p2
  by_cases hlt : i < xs.length
  · refine .inr ⟨it.go i H2 I2 m2 s2 o2 st2 hlt, fun σ' H' => ∃ I' δ' m', Same I1 I' ∧ Ok X.K H' I' m' ∧ Rl X.K I' σ' δ' ∧ Pv (i + 1) δ' m', fun σ' H' z => ⟨xs.length - (i + 1), by omega, rfl, hlt, z⟩, fun x H' y => ?_⟩
    obtain ⟨I3, d, s3, o3, hd⟩ := it.yld i H2 I2 m2 x H' s2 o2 st2 y
    obtain ⟨hx, ix⟩ := hd hlt
    refine ⟨I3, δ2, m2, d, o3, r2.same s3, ix, hg.mono d δ2 m2 _ _ (fun δ4 m4 z σ4 H4 I4 s4 o4 r4 => ?_) (pt i d δ2 m2 hx p2)⟩
    refine ⟨I4, δ4, m4, o4, r4, hb.mono { low X.K I D with nx := Pv (i + 1), ct := Pv (i + 1), bk := (low X.K I D).nx } _ δ4 m4 ⟨fun δ5 m5 z σ5 H5 I5 s5 o5 r5 => ?_, fun d5 m5 z v5 H5 I5 s5 => ?_, fun δ5 m5 z σ5 H5 I5 s5 => ?_, fun δ5 m5 z σ5 H5 I5 s5 o5 r5 => ?_⟩ z⟩
    · exact ⟨I5, δ5, m5, ((s2.trans s3).trans s4).trans s5, o5, r5, z⟩
    · exact z v5 H5 I5 ((((s1.trans s2).trans s3).trans s4).trans s5)
    · exact z σ5 H5 I5 ((((s1.trans s2).trans s3).trans s4).trans s5)
    · exact ⟨I5, δ5, m5, ((s2.trans s3).trans s4).trans s5, o5, r5, z⟩
  · have e : i = xs.length := by omega
    subst e
    exact .inl ⟨it.stop H2 I2 m2 s2 o2 st2, pd δ2 m2 p2 σ2 H2 I2 (s1.trans s2) o2 r2⟩
end
end DL
namespace DL
open PySem PySem.Spec PyProof.Rows L2
def delM (m : M) (a : Addr) : M := fun b => if b = a then none else m b
theorem delM_same {m : M} {a : Addr} : delM m a a = none := by unfold delM; rw [if_pos rfl]
theorem delM_ne {m : M} {a b : Addr} (h : b ≠ a) : delM m a b = m b := by unfold delM; rw [if_neg h]
theorem delM_setM {m : M} {a : Addr} {o : MO} (h : m a = none) : delM (setM m a o) a = m := by
  funext b
  by_cases e : b = a
  · subst e; rw [delM_same, h]
  · rw [delM_ne e, setM_ne e]
theorem setM_delM {m : M} {a : Addr} {o : MO} (h : m a = some o) : setM (delM m a) a o = m := by
  funext b
  by_cases e : b = a
  · subst e; rw [setM_same, h]
  · rw [setM_ne e, delM_ne e]
theorem setM_setM {m : M} {a : Addr} {o o' : MO} : setM (setM m a o) a o' = setM m a o' := by
  funext b
  by_cases e : b = a
  · subst e; rw [setM_same, setM_same]
  · rw [setM_ne e, setM_ne e, setM_ne e]
def wipeD (δ : Dn) : List Nat → Dn
  | [] => δ
  | v :: vs => (wipeD δ vs).set v none
theorem Rl.wipe {K : PySem.W.Frag} {I : Hp} {σ : St} {δ : Dn} (h : Rl K I σ δ) : ∀ vs : List Nat, Rl K I (wipe σ vs) (wipeD δ vs)
  | [] => h
  | v :: vs => paired_set (fun x e => by cases e) v (Rl.wipe h vs)
theorem Ok.freeze {K : PySem.W.Frag} {H I : Hp} {m : M} {p : Addr} {xs : List PyData} (ok : Ok K H I m) (hp : m p = some (.lst (xs.map .d))) :
    ∃ I', Same I I' ∧ Ok K H I' (delM m p) ∧ Is K I' (.ref p) (.d (.list xs)) := by
  obtain ⟨vs, hv, al⟩ := ok.lst hp
  have hI : I p = none := by
    cases e : I p with
    | none => rfl
    | some u => have := ok.dj p u e; rw [hp] at this; cases this
  have sm : Same I (upd I p (.lst vs)) := same_new (H := H) hI
  refine ⟨upd I p (.lst vs), sm, ⟨fun a o e => ?_, fun a o e => ?_, fun a q e => ?_⟩, Dp.lst (SqL.of upd_same) (DpAll.same sm (dpAll_of al))⟩
  · by_cases h : a = p
    · subst h; rw [upd_same] at e; cases e; exact hv
    · rw [upd_ne h] at e; exact ok.im a o e
  · by_cases h : a = p
    · subst h; exact delM_same
    · rw [upd_ne h] at e; rw [delM_ne h]; exact ok.dj a o e
  · have h : a ≠ p := fun z => by subst z; rw [delM_same] at e; cases e
    rw [delM_ne h] at e
    obtain ⟨o, h1, h2⟩ := ok.mu a q e
    exact ⟨o, h1, h2.same sm⟩
def dLc (w : TId) (g : TGd) (tt : TBd) (te : TD) (vs : List Nat) : TD := fun δ m Q => w δ m fun xs still m1 => xs.length ≤ 16777216 ∧ ∀ D, m1 D = none → ∃ Pv : Nat → List PyData → M → Prop, Pv 0 [] m1 ∧
  (∀ i acc m, Pv i acc m → m D = none ∧ still (setM m D (.lst (acc.map .d)))) ∧
  (∀ i x acc m, xs[i]? = some x → Pv i acc m → g x (wipeD δ vs) (setM m D (.lst (acc.map .d))) fun δ2 m2 => tt δ2 m2 fun b m3 => if b = true then te δ2 m3 fun y m4 => ∃ z, y = .d z ∧ m4 D = some (.lst (acc.map .d)) ∧ Pv (i + 1) (acc ++ [z]) (delM m4 D)
    else m3 D = some (.lst (acc.map .d)) ∧ Pv (i + 1) acc (delM m3 D)) ∧ ∀ acc m, Pv xs.length acc m → Q (.d (.list acc)) m
section
variable {X : Cx}
def dYes : TBd := fun _ m Q => Q true m
structure DTs (X : Cx) (ifs : List Expr) (t : TBd) : Prop where
  mono : Mo t
  pts : PTs X ifs (upB X.K t)
theorem dts_one {c : Expr} {t : TBd} (h : DT X c t) : DTs X [c] t := ⟨h.mono, pts_one h.pt⟩
theorem mo_dLc {w : TId} {g : TGd} {tt : TBd} {te : TD} {vs : List Nat} (hw : MoI w) : Mo (dLc w g tt te vs) := fun δ m Q Q' hq q =>
  hw δ m _ _ (fun xs st m1 ⟨hl, z⟩ => ⟨hl, fun D hD => let ⟨Pv, p0, ps, pt, pd⟩ := z D hD; ⟨Pv, p0, ps, pt, fun acc m p => hq _ _ (pd acc m p)⟩⟩) q
theorem wipe_set2 {σ : St} {i j : Nat} {v v' : V} (h : i ≠ j) : wipe (((wipe σ [i, j]).set i (some v)).set j (some v')) [i, j] = wipe σ [i, j] := by
  show (((((σ.set j none).set i none).set i (some v)).set j (some v')).set j none).set i none = (σ.set j none).set i none
  apply List.ext_getElem?
  intro k
  by_cases hi : i = k
  · subst hi
    simp [List.getElem?_set]
  · rw [List.getElem?_set_ne hi, List.getElem?_set_ne hi]
    by_cases hj : j = k
    · subst hj
      simp [List.getElem?_set, h, hi]
    · rw [List.getElem?_set_ne hj, List.getElem?_set_ne hj, List.getElem?_set_ne hi, List.getElem?_set_ne hi, List.getElem?_set_ne hj]
theorem lc_up {w : TId} {g : TGd} {gH : TG} {tt : TBd} {te : TD} {vs : List Nat} {σ : St} {H I : Hp} {δ : Dn} {m : M} {Q : QD} (hw : MoI w) (ht : Mo tt) (he : Mo te)
    (gm : ∀ x δ m (Q Q' : Dn → M → Prop), (∀ δ m, Q δ m → Q' δ m) → g x δ m Q → g x δ m Q')
    (gok : ∀ x v H I δ m (R : Dn → M → Prop), Ok X.K H I m → Rl X.K I (wipe σ vs) δ → Is X.K I v x → g x δ m R → gH v (wipe σ vs) H fun σ2 H2 => wipe σ2 vs = wipe σ vs ∧ H2 = H ∧ ∃ δ2, Rl X.K I σ2 δ2 ∧ R δ2 m)
    (gmono : ∀ v σ H (R R' : St → Hp → Prop), (∀ σ H, R σ H → R' σ H) → gH v σ H R → gH v σ H R')
    (ok : Ok X.K H I m) (rl : Rl X.K I σ δ) (q : dLc w g tt te vs δ m Q) : tLc (upI X.K w) gH (upB X.K tt) (up X.K te) vs σ H (Qd X.K I Q) := by
  refine ⟨I, δ, m, ok, rl, hw δ m _ _ (fun xs st m1 ⟨hlen, z⟩ J H1 I1 s1 o1 it D hD => ?_) q⟩
  obtain ⟨Pv, p0, ps, pt, pd⟩ := z D (o1.freeM hD)
  have hz : sizeLine = 16777216 := sizeLine_eq
  refine ⟨fun i n H2 => n = xs.length - i ∧ i ≤ xs.length ∧ ∃ I2 acc m2, Same I1 I2 ∧ Ok X.K H2 I2 (setM m2 D (.lst (acc.map .d))) ∧ acc.length ≤ i ∧ Pv i acc m2, ⟨xs.length, by simp, Nat.zero_le _, I1, [], m1, Same.refl _, by exact o1.newM hD (show IsAll X.K I1 [] [] from .nil), Nat.le_refl _, p0⟩, ?_⟩
  rintro i n H2 ⟨rfl, hi2, I2, acc, m2, s2, o2, ha, p2⟩
  obtain ⟨hD2, st2⟩ := ps i acc m2 p2
  by_cases hlt : i < xs.length
  · refine .inr ⟨it.go i H2 I2 _ s2 o2 st2 hlt, fun H' => ∃ I' acc' m', Same I1 I' ∧ Ok X.K H' I' (setM m' D (.lst (acc'.map .d))) ∧ acc'.length ≤ i + 1 ∧ Pv (i + 1) acc' m', fun H' z => ⟨xs.length - (i + 1), by omega, rfl, hlt, z⟩, fun x H' y => ?_⟩
    obtain ⟨I3, d, s3, o3, hd⟩ := it.yld i H2 I2 _ x H' s2 o2 st2 y
    obtain ⟨hx, ix⟩ := hd hlt
    refine gmono _ _ _ _ _ (fun σ4 H4 z4 => ?_) (gok d x H' I3 (wipeD δ vs) _ _ o3 (((rl.same s1).same (s2.trans s3)).wipe vs) ix (pt i d acc m2 hx p2))
    obtain ⟨e4, rfl, δ4, r4, z4⟩ := z4
    refine ⟨e4, I3, δ4, _, o3, r4, ht _ _ _ _ (fun b m5 z5 H5 I5 s5 o5 => ?_) z4⟩
    cases b with
    | false =>
      obtain ⟨z5, p5⟩ : m5 D = some (.lst (acc.map .d)) ∧ Pv (i + 1) acc (delM m5 D) := by simpa using z5
      exact iteF ⟨I5, acc, delM m5 D, (s2.trans s3).trans s5, by rw [setM_delM z5]; exact o5, by omega, p5⟩
    | true =>
      refine iteT ⟨I5, δ4, m5, o5, r4.same s5, he _ _ _ _ (fun y6 m6 z6 v6 H6 I6 s6 o6 i6 => ?_) (show te δ4 m5 _ by simpa using z5)⟩
      obtain ⟨w6, rfl, hm6, p6⟩ := z6
      obtain ⟨ws, hw6, bl⟩ := o6.lst hm6
      have hlen2 : ws.length = acc.length := by rw [paired_len bl, List.length_map]
      refine ⟨ws, hw6, by rw [hlen2]; omega, I6, acc ++ [w6], delM m6 D, ((s2.trans s3).trans s5).trans s6, ?_, by rw [List.length_append]; simpa using ha, p6⟩
      have e6 : setM (delM m6 D) D (.lst ((acc ++ [w6]).map .d)) = setM m6 D (.lst ((acc ++ [w6]).map .d)) := by
        funext b
        by_cases e : b = D
        · subst e; rw [setM_same, setM_same]
        · rw [setM_ne e, setM_ne e, delM_ne e]
      rw [e6]
      exact o6.put hm6 (by rw [List.map_append]; exact paired_app bl (.cons i6 .nil))
  · have e : i = xs.length := by omega
    subst e
    refine .inl ⟨it.stop H2 I2 _ s2 o2 st2, ?_⟩
    obtain ⟨I3, s3, o3, is3⟩ := o2.freeze setM_same
    rw [delM_setM hD2] at o3
    exact ⟨I3, _, m2, (s1.trans s2).trans s3, o3, is3, pd acc m2 p2⟩
variable {elt iter : Expr} {ifs : List Expr} {scope : Scope} {pos ppos : Pos} {w : TId} {tt : TBd} {te : TD} {x : Str} {i : Nat}
end
end DL
namespace DL
open PySem PySem.Spec PyProof.Rows L2
theorem atI_all {α β : Type} {R : α → β → Prop} {xs : List α} {ys : List β} (h : Paired R xs ys) {i : Int} {y : β} (e : atI ys i = some y) : ∃ x, atI xs i = some x ∧ R x y := by
  have hl := paired_len h
  unfold atI at e ⊢
  rw [hl]
  cases q : ixN ys.length i with
  | none => rw [q] at e; cases e
  | some j =>
    rw [q] at e
    obtain ⟨x, h1, h2⟩ := paired_get h (show ys[j]? = some y from e)
    exact ⟨x, h1, h2⟩
theorem atI_map {α β : Type} (f : α → β) (xs : List α) (i : Int) : atI (xs.map f) i = (atI xs i).map f := by
  unfold atI
  rw [List.length_map]
  cases ixN xs.length i with
  | none => rfl
  | some j => simp [Option.bind]
def gIx : R2D
  | .d (.list xs), .d (.int i), m, Q => ∃ v, atI xs i = some v ∧ Q (.d v) m
  | .d (.tuple xs), .d (.int i), m, Q => ∃ v, atI xs i = some v ∧ Q (.d v) m
  | .d (.str z), .d (.int i), m, Q => z.length ≤ 16777216 ∧ ∃ c, atI z.cps.toList i = some c ∧ Q (.d (.str ⟨#[c]⟩)) m
  | .r a, .d (.int i), m, Q => ∃ xs, m a = some (.lst xs) ∧ ∃ v, atI xs i = some v ∧ Q v m
  | _, _, _, _ => False
theorem o2_ix {K : PySem.W.Frag} : Op2 K (rIx K) gIx := by
  refine ⟨fun x y m Q Q' h q => ?_, fun H I0 I m x y v w Q ok s hx hy q => ?_⟩
  · unfold gIx at q ⊢
    split at q
    · obtain ⟨v, e, q⟩ := q; exact ⟨v, e, h _ _ q⟩
    · obtain ⟨v, e, q⟩ := q; exact ⟨v, e, h _ _ q⟩
    · obtain ⟨hz, v, e, q⟩ := q; exact ⟨hz, v, e, h _ _ q⟩
    · obtain ⟨xs, e1, v, e, q⟩ := q; exact ⟨xs, e1, v, e, h _ _ q⟩
    · exact q.elim
  · unfold gIx at q
    split at q
    · obtain ⟨z, e, q⟩ := q
      cases (show Dp K I v (.list _) from hx) with
      | lst sq al =>
        obtain ⟨u, h1, h2⟩ := atI_all (isAll_of al) (show atI (List.map Dv.d _) _ = some (Dv.d z) from (atI_map Dv.d _ _).trans (by rw [e]; rfl))
        exact .inl ⟨_, _, _, u, rfl, hy.int, Same.seq ok.im sq, h1, qd_same ok s h2 q⟩
    · obtain ⟨z, e, q⟩ := q
      cases (show Dp K I v (.tuple _) from hx) with
      | tup sq al =>
        obtain ⟨u, h1, h2⟩ := atI_all (isAll_of al) (show atI (List.map Dv.d _) _ = some (Dv.d z) from (atI_map Dv.d _ _).trans (by rw [e]; rfl))
        exact .inr (.inl ⟨_, _, _, u, rfl, hy.int, SqT.same ok.im sq, h1, qd_same ok s h2 q⟩)
    · obtain ⟨hz, c, e, q⟩ := q
      exact .inr (.inr ⟨_, _, c, hx.str, hy.int, by rw [sizeLine_eq]; exact hz, e, qd_same ok s (isS _) q⟩)
    · obtain ⟨xs, e1, z, e, q⟩ := q
      have hx : v = .ref _ := hx
      subst hx
      obtain ⟨vs, hv, al⟩ := ok.lst e1
      obtain ⟨u, h1, h2⟩ := atI_all al e
      exact .inl ⟨_, vs, _, u, rfl, hy.int, SqL.of hv, h1, qd_same ok s h2 q⟩
    · exact q.elim
section
variable {X : Cx} {a b e : Expr} {ta tb te : TD} {pos : Pos}
theorem de_ix (ha : DE X a ta) (hb : DE X b tb) (hs : PlainIx b := by intro _ _; rfl) : DE X (.Subscript a b pos) (dOp gIx ta tb) := lift2 (pe_ix ix_seq ha.pe hb.pe hs) ha hb o2_ix
def gSetI (v : Dv) (δ : Dn) (Q : Dn → M → Prop) : Dv → Dv → M → Prop
  | .r a, .d (.int k), m => ∃ xs, m a = some (.lst xs) ∧ ∃ j, ixN xs.length k = some j ∧ Q δ (setM m a (.lst (xs.set j v)))
  | _, _, _ => False
theorem gSetI_inv {v : Dv} {δ : Dn} {Q : Dn → M → Prop} {o i : Dv} {m : M} (h : gSetI v δ Q o i m) : ∃ a k xs j, o = .r a ∧ i = .d (.int k) ∧ m a = some (.lst xs) ∧ ixN xs.length k = some j ∧ Q δ (setM m a (.lst (xs.set j v))) := by
  unfold gSetI at h; split at h
  · obtain ⟨xs, e, j, e2, q⟩ := h; exact ⟨_, _, xs, j, rfl, rfl, e, e2, q⟩
  · exact h.elim
def dgSub (to ti : TD) : TGd := fun v δ m Q => to δ m fun o m1 => ti δ m1 fun i m2 => gSetI v δ Q o i m2
theorem dg_sub {o i : Expr} {to ti : TD} (ho : DE X o to) (hi : DE X i ti)
    (ha : ∀ v, assign (.Subscript o i pos) X.env v = (do
      let ov ← holding [v] (eval o X.env)
      let iv ← holding [v, ov] (eval i X.env)
      standAt pos
      holding [v, ov, iv] (setItem ov iv v)
      release [v, ov, iv] []) := by intro _; rfl) : DG X (.Subscript o i pos) (dgSub to ti) := by
  refine ⟨fun x δ m Q Q' h q => ho.mono δ m _ _ (fun o m1 q1 => hi.mono δ m1 _ _ (fun i m2 q2 => by
    obtain ⟨a, k, xs, j, rfl, rfl, e3, e4, q2⟩ := gSetI_inv q2
    exact ⟨xs, e3, j, e4, h _ _ q2⟩) q1) q, PG.imp (pg_sub ho.pe hi.pe set_list ha) fun v σ H Q ⟨I, δ, m, x, ok, rl, is, q⟩ => ?_⟩
  refine ⟨I, δ, m, ok, rl, ho.mono δ m _ _ (fun o m1 q1 v1 H1 I1 s1 o1 i1 => ?_) q⟩
  refine ⟨I1, δ, m1, o1, rl.same s1, hi.mono δ m1 _ _ (fun i m2 q2 v2 H2 I2 s2 o2 i2 => ?_) q1⟩
  obtain ⟨a, k, xs, j, rfl, rfl, e3, e4, q2⟩ := gSetI_inv q2
  have i1 : v1 = .ref a := i1
  subst i1
  obtain ⟨vs, hv, al⟩ := o2.lst e3
  refine ⟨a, vs, k, j, rfl, i2.int, hv, by rw [paired_len al]; exact e4, ?_⟩
  exact q2 σ _ I2 (s1.trans s2) (o2.put e3 (paired_set ((is.same s1).same s2) j al)) ((rl.same s1).same s2)
end
section
variable {X : Cx} {a b : Expr} {ta tb : TD} {pos : Pos}
def rCatL (K : PySem.W.Frag) : R2 := fun x y H Q => ∃ l b xs zs, x = .ref l ∧ y = .ref b ∧ SqL K H l xs ∧ SqL K H b zs ∧ xs.length + zs.length ≤ sizeLine ∧ ∀ p, H p = none → Q (.ref p) (upd H p (.lst (xs ++ zs)))
theorem add_list_any {prog : Program} {w : World} {A : Around} {E : Value → Shared → Prop} {s : Shared} {l b : Addr} {vs ws : List Value} {Q : Value → Shared → Prop} (hl : s.heap.IsList l vs.toArray) (hb : s.heap.IsList b ws.toArray)
    (h : Q (.ref s.heap.objs.size) { s with heap := s.heap.push { cls := .type "list", data := .seq (vs ++ ws).toArray } })
    (hsz : vs.length + ws.length ≤ sizeLine) : wpAny (model prog w) A (binaryOp .Add (.ref l) (.ref b)) Q E s := by
  obtain ⟨⟨cls, dd, data, sl⟩, ho, hc, n, hd⟩ := id hl
  obtain ⟨⟨cls2, dd2, data2, sl2⟩, ho2, hc2, n2, hd2⟩ := id hb
  simp only at hc hd hc2 hd2
  subst hc hd hc2 hd2
  have e : vs.toArray ++ ws.toArray = (vs ++ ws).toArray := by simp
  refine concat_meets ⟨_, ho, rfl⟩ ⟨_, ho2, rfl⟩ noFill_list_add seq_list_add PySem.F.slot_list_add PySem.F.entry_list_add (PySem.F.args_list_add_2 _ _) (list_addW l b vs.toArray ws.toArray n n2 dd dd2 sl sl2 (by simpa using hsz)) ⟨ho, ho2, ?_⟩
  rw [e]
  exact h
theorem op_catL : OpR X (binaryOp .Add) (rCatL X.K) := by
  intro pins s σ H x y v u Q I rx ry h
  obtain ⟨l, b, xs, zs, rfl, rfl, hH, hB, hz, q⟩ := h
  cases rx
  cases ry
  obtain ⟨its, r, pl1, z1⟩ := I.list hH
  obtain ⟨its2, r2, pl2, z2⟩ := I.list hB
  have hl := r.length
  have hl2 := r2.length
  refine add_list_any pl1.isList pl2.isList ?_ (by omega)
  exact ⟨.ref _, _, I.lnew (t' := s.toks) (r.append r2) (by rw [List.length_append]; omega), rfl, q _ I.fresh⟩
def rAddAll (K : PySem.W.Frag) : R2 := fun x y H Q => rI0 (fun i j => .int (i + j)) x y H Q ∨ (∃ i j, x = .str i ∧ y = .str j ∧ i.length + j.length ≤ sizeLine ∧ Q (.str (i ++ j)) H) ∨ rCatL K x y H Q
theorem op_addAll : OpR X (binaryOp .Add) (rAddAll X.K) := op_add.or (op_add_str.or op_catL)
def gAdd : R2D
  | .d (.int i), .d (.int j), m, Q => Q (.d (.int (i + j))) m
  | .d (.str i), .d (.str j), m, Q => i.length + j.length ≤ 16777216 ∧ Q (.d (.str (i ++ j))) m
  | .d (.list xs), .d (.list ys), m, Q => xs.length + ys.length ≤ 16777216 ∧ Q (.d (.list (xs ++ ys))) m
  | _, _, _, _ => False
theorem dpAll_app {K : PySem.W.Frag} {I : Hp} : ∀ {xs ys : List V} {ds es : List PyData}, DpAll K I xs ds → DpAll K I ys es → DpAll K I (xs ++ ys) (ds ++ es)
  | _, _, _, _, .nil, h => h
  | _, _, _, _, .cons r t, h => .cons r (dpAll_app t h)
theorem dpAll_len {K : PySem.W.Frag} {I : Hp} {xs : List V} {ds : List PyData} (h : DpAll K I xs ds) : xs.length = ds.length := by
  rw [paired_len (isAll_of h), List.length_map]
theorem qd_newL {K : PySem.W.Frag} {H I0 I : Hp} {m : M} {Q : QD} {vs : List V} {xs : List PyData} {p : Addr} (ok : Ok K H I m) (s : Same I0 I) (hp : H p = none) (al : DpAll K I vs xs) (q : Q (.d (.list xs)) m) : Qd K I0 Q (.ref p) (upd H p (.lst vs)) := by
  have fI := ok.free hp
  exact ⟨upd I p (.lst vs), .d (.list xs), m, s.trans (same_new (H := H) fI), ok.new hp, Dp.lst (SqL.of upd_same) (DpAll.same (same_new (H := H) fI) al), q⟩
theorem qd_newT {K : PySem.W.Frag} {H I0 I : Hp} {m : M} {Q : QD} {vs : List V} {xs : List PyData} {p : Addr} (ok : Ok K H I m) (s : Same I0 I) (hp : H p = none) (al : DpAll K I vs xs) (q : Q (.d (.tuple xs)) m) : Qd K I0 Q (.ref p) (upd H p (.tup vs)) := by
  have fI := ok.free hp
  exact ⟨upd I p (.tup vs), .d (.tuple xs), m, s.trans (same_new (H := H) fI), ok.new hp, Dp.tup (SqT.of upd_same) (DpAll.same (same_new (H := H) fI) al), q⟩
theorem o2_add {K : PySem.W.Frag} : Op2 K (rAddAll K) gAdd := by
  refine ⟨fun x y m Q Q' h q => ?_, fun H I0 I m x y v w Q ok s hx hy q => ?_⟩
  · unfold gAdd at q ⊢
    split at q
    · exact h _ _ q
    · exact ⟨q.1, h _ _ q.2⟩
    · exact ⟨q.1, h _ _ q.2⟩
    · exact q.elim
  · unfold gAdd at q
    split at q
    · exact .inl ⟨_, _, hx.int, hy.int, qd_same ok s (isI _) q⟩
    · exact .inr (.inl ⟨_, _, hx.str, hy.str, by rw [sizeLine_eq]; exact q.1, qd_same ok s (isS _) q.2⟩)
    · cases (show Dp K I v (.list _) from hx) with
      | lst sq al =>
        cases (show Dp K I w (.list _) from hy) with
        | lst sq2 al2 =>
          exact .inr (.inr ⟨_, _, _, _, rfl, rfl, Same.seq ok.im sq, Same.seq ok.im sq2, by rw [sizeLine_eq, dpAll_len al, dpAll_len al2]; exact q.1, fun p hp => qd_newL ok s hp (dpAll_app al al2) q.2⟩)
    · exact q.elim
theorem de_add (ha : DE X a ta) (hb : DE X b tb) : DE X (.BinOp a .Add b pos) (dOp gAdd ta tb) := de_op op_addAll o2_add ha hb
end
def flatD : PyData → Bool
  | .none | .bool _ | .int _ | .str _ => true
  | _ => false
def inD (x : PyData) (ys : List PyData) : Bool := ys.any fun y => PyData.eqv y x
def gIn (neg : Bool) : R2D
  | .d x, .d (.list ys), m, Q => flatD x = true ∧ ys.all flatD = true ∧ Q (.d (.bool (if neg then !inD x ys else inD x ys))) m
  | .d x, .d (.tuple ys), m, Q => flatD x = true ∧ ys.all flatD = true ∧ Q (.d (.bool (if neg then !inD x ys else inD x ys))) m
  | _, _, _, _ => False
theorem flat_of {K : PySem.W.Frag} {I : Hp} {v : V} {x : PyData} (h : Dp K I v x) (f : flatD x = true) : flatV v = true := by
  cases h <;> first | rfl | cases f
theorem eqV_of {K : PySem.W.Frag} {I : Hp} {v w : V} {x y : PyData} (h : Dp K I v x) (g : Dp K I w y) (f : flatD x = true) (f2 : flatD y = true) : eqV v w = PyData.eqv x y := by
  cases h <;> cases g <;> first | rfl | cases f | cases f2
theorem flats_of {K : PySem.W.Frag} {I : Hp} : ∀ {vs : List V} {xs : List PyData}, DpAll K I vs xs → xs.all flatD = true → vs.all flatV = true
  | _, _, .nil, _ => rfl
  | _, _, .cons h t, f => by
    rw [List.all_cons, Bool.and_eq_true] at f ⊢
    exact ⟨flat_of h f.1, flats_of t f.2⟩
section
variable {X : Cx} {a b c e : Expr} {es : List Expr} {ta tb tc : TD} {t : TAd} {pos : Pos}
def gLen : RAD
  | [.d (.list xs)], m, Q => Q (.d (.int xs.length)) m
  | [.d (.tuple xs)], m, Q => Q (.d (.int xs.length)) m
  | [.d (.str z)], m, Q => z.length ≤ 16777216 ∧ Q (.d (.int z.length)) m
  | [.r a], m, Q => ∃ xs, m a = some (.lst xs) ∧ Q (.d (.int xs.length)) m
  | _, _, _ => False
theorem isAll1 {K : PySem.W.Frag} {I : Hp} {vs : List V} {x : Dv} (h : IsAll K I vs [x]) : ∃ v, vs = [v] ∧ Is K I v x := by
  cases h with
  | cons r t => cases t; exact ⟨_, rfl, r⟩
theorem isAll2 {K : PySem.W.Frag} {I : Hp} {vs : List V} {x y : Dv} (h : IsAll K I vs [x, y]) : ∃ v w, vs = [v, w] ∧ Is K I v x ∧ Is K I w y := by
  cases h with
  | cons r t =>
    obtain ⟨w, rfl, h2⟩ := isAll1 t
    exact ⟨_, w, rfl, r, h2⟩
theorem oA_len {K : PySem.W.Frag} : OpA K (fun xs H Q => ∃ x n, xs = [x] ∧ LenV K x H n ∧ Q (.int (n : Nat)) H) gLen := by
  refine ⟨fun x m Q Q' h q => ?_, fun H I0 I m xs vs Q ok s hx q => ?_⟩
  · unfold gLen at q ⊢
    split at q
    · exact h _ _ q
    · exact h _ _ q
    · exact ⟨q.1, h _ _ q.2⟩
    · obtain ⟨xs, e, q⟩ := q; exact ⟨xs, e, h _ _ q⟩
    · exact q.elim
  · unfold gLen at q
    split at q
    · obtain ⟨v, rfl, hv⟩ := isAll1 hx
      cases (show Dp K I v (.list _) from hv) with
      | lst sq al => exact ⟨_, _, rfl, .inl ⟨_, Same.seq ok.im sq, rfl⟩, by rw [dpAll_len al]; exact qd_same ok s (isI _) q⟩
    · obtain ⟨v, rfl, hv⟩ := isAll1 hx
      cases (show Dp K I v (.tuple _) from hv) with
      | tup sq al => exact ⟨_, _, rfl, .inr ⟨_, SqT.same ok.im sq, rfl⟩, by rw [dpAll_len al]; exact qd_same ok s (isI _) q⟩
    · obtain ⟨v, rfl, hv⟩ := isAll1 hx
      have := hv.str
      subst this
      exact ⟨_, _, rfl, ⟨by rw [sizeLine_eq]; exact q.1, rfl⟩, qd_same ok s (isI _) q.2⟩
    · obtain ⟨v, rfl, hv⟩ := isAll1 hx
      obtain ⟨xs, e, q⟩ := q
      have hv : v = .ref _ := hv
      subst hv
      obtain ⟨ws, hw, al⟩ := ok.lst e
      exact ⟨_, _, rfl, .inl ⟨_, SqL.of hw, rfl⟩, by rw [paired_len al]; exact qd_same ok s (isI _) q⟩
    · exact q.elim
theorem de_len {p : Pos} (hg : Gl X "len") (hm : X.mg "len" = none) (ha : DA X [e] t) (he : starEach [e] X.env = [(false, eval e X.env)] := by rfl) : DE X (.Call (.Name "len" p) [e] [] pos) (dCB gLen t) :=
  de_callB call_len oA_len hg hm (by decide +kernel) ha (he := he)
def g1A (g : Int → Int) : RAD
  | [.d (.int i)], m, Q => Q (.d (.int (g i))) m
  | _, _, _ => False
def g2A (g : Int → Int → Int) : RAD
  | [.d (.int i), .d (.int j)], m, Q => Q (.d (.int (g i j))) m
  | _, _, _ => False
theorem oA_1 {K : PySem.W.Frag} {g : Int → Int} : OpA K (fun xs H Q => ∃ i, xs = [.int i] ∧ Q (.int (g i)) H) (g1A g) := by
  refine ⟨fun x m Q Q' h q => ?_, fun H I0 I m xs vs Q ok s hx q => ?_⟩
  · unfold g1A at q ⊢
    split at q
    · exact h _ _ q
    · exact q.elim
  · unfold g1A at q
    split at q
    · obtain ⟨v, rfl, hv⟩ := isAll1 hx
      exact ⟨_, by rw [hv.int], qd_same ok s (isI _) q⟩
    · exact q.elim
theorem oA_2 {K : PySem.W.Frag} {g : Int → Int → Int} : OpA K (fun xs H Q => ∃ i j, xs = [.int i, .int j] ∧ Q (.int (g i j)) H) (g2A g) := by
  refine ⟨fun x m Q Q' h q => ?_, fun H I0 I m xs vs Q ok s hx q => ?_⟩
  · unfold g2A at q ⊢
    split at q
    · exact h _ _ q
    · exact q.elim
  · unfold g2A at q
    split at q
    · obtain ⟨v, w, rfl, hv, hw⟩ := isAll2 hx
      exact ⟨_, _, by rw [hv.int, hw.int], qd_same ok s (isI _) q⟩
    · exact q.elim
def absI (i : Int) : Int := if i < 0 then -i else i
def maxI (i j : Int) : Int := if j > i then j else i
def minI (i j : Int) : Int := if j < i then j else i
theorem de_abs {p : Pos} (hg : Gl X "abs") (hm : X.mg "abs" = none) (ha : DA X [e] t) (he : starEach [e] X.env = [(false, eval e X.env)] := by rfl) : DE X (.Call (.Name "abs" p) [e] [] pos) (dCB (g1A absI) t) :=
  de_callB call_abs (oA_1 (g := absI)) hg hm (by decide +kernel) ha (he := he)
theorem de_max2 {p : Pos} (hc : X.calm = true) (hg : Gl X "max") (hm : X.mg "max" = none) (ha : DA X [a, b] t) (he : starEach [a, b] X.env = (false, eval a X.env) :: starEach [b] X.env := by rfl) (hpl : (backTo pos (starEach [b] X.env)).any (·.1) = false := by rfl) : DE X (.Call (.Name "max" p) [a, b] [] pos) (dCB (g2A maxI) t) :=
  de_callB (call_max2 hc) (oA_2 (g := maxI)) hg hm (by decide +kernel) ha (he := he) (hpl := hpl)
theorem de_min2 {p : Pos} (hc : X.calm = true) (hg : Gl X "min") (hm : X.mg "min" = none) (ha : DA X [a, b] t) (he : starEach [a, b] X.env = (false, eval a X.env) :: starEach [b] X.env := by rfl) (hpl : (backTo pos (starEach [b] X.env)).any (·.1) = false := by rfl) : DE X (.Call (.Name "min" p) [a, b] [] pos) (dCB (g2A minI) t) :=
  de_callB (call_min2 hc) (oA_2 (g := minI)) hg hm (by decide +kernel) ha (he := he) (hpl := hpl)
def gInt : RAD
  | [.d (.int i)], m, Q => Q (.d (.int i)) m
  | [.d (.bool k)], m, Q => Q (.d (.int (if k then 1 else 0))) m
  | _, _, _ => False
theorem oA_int {K : PySem.W.Frag} : OpA K (fun xs H Q => (∃ i, xs = [.int i] ∧ Q (.int i) H) ∨ ∃ k, xs = [.bl k] ∧ Q (.int (if k then 1 else 0)) H) gInt := by
  refine ⟨fun x m Q Q' h q => ?_, fun H I0 I m xs vs Q ok s hx q => ?_⟩
  · unfold gInt at q ⊢
    split at q
    · exact h _ _ q
    · exact h _ _ q
    · exact q.elim
  · unfold gInt at q
    split at q
    · obtain ⟨v, rfl, hv⟩ := isAll1 hx
      exact .inl ⟨_, by rw [hv.int], qd_same ok s (isI _) q⟩
    · obtain ⟨v, rfl, hv⟩ := isAll1 hx
      exact .inr ⟨_, by rw [hv.bl], qd_same ok s (isI _) q⟩
    · exact q.elim
theorem de_intc {p : Pos} (hg : Gl X "int") (hm : X.mg "int" = none) (ha : DA X [e] t) (he : starEach [e] X.env = [(false, eval e X.env)] := by rfl) : DE X (.Call (.Name "int" p) [e] [] pos) (dCB gInt t) :=
  de_callTy call_int1 oA_int hg hm (by decide +kernel) ha (he := he)
def gSum : RAD
  | [.d (.list xs)], m, Q => ∃ ns : List Int, xs = ns.map .int ∧ Q (.d (.int ns.sum)) m
  | _, _, _ => False
def gTuple : RAD
  | [.d (.list xs)], m, Q => Q (.d (.tuple xs)) m
  | [.d (.tuple xs)], m, Q => Q (.d (.tuple xs)) m
  | _, _, _ => False
end
end DL
namespace DL
open PySem PySem.Spec PyProof.Rows L2
section
variable {X : Cx} {elt iter : Expr} {ifs : List Expr} {scope : Scope} {pos ppos px py : Pos} {w : TId} {tt : TBd} {te : TD} {x y : Str} {i j kk : Nat}
def dgPair (i j : Nat) : TGd
  | .d (.tuple [a, b]), δ, m, Q => Q ((δ.set i (some (.d a))).set j (some (.d b))) m
  | _, _, _, _ => False
theorem dgPair_inv {i j : Nat} {x : Dv} {δ : Dn} {m : M} {Q : Dn → M → Prop} (h : dgPair i j x δ m Q) : ∃ a b, x = .d (.tuple [a, b]) ∧ Q ((δ.set i (some (.d a))).set j (some (.d b))) m := by
  unfold dgPair at h; split at h
  · exact ⟨_, _, rfl, h⟩
  · exact h.elim
theorem mo_dgPair : ∀ x δ m (Q Q' : Dn → M → Prop), (∀ δ m, Q δ m → Q' δ m) → dgPair i j x δ m Q → dgPair i j x δ m Q' := fun x δ m Q Q' h q => by
  obtain ⟨a, b, rfl, q⟩ := dgPair_inv q
  exact h _ _ q
theorem gok2 {K : PySem.W.Frag} {σ : St} (hij : i ≠ j) : ∀ (x : Dv) (v : V) (H I : Hp) (δ : Dn) (m : M) (R : Dn → M → Prop), Ok K H I m → Rl K I (wipe σ [i, j]) δ → Is K I v x → dgPair i j x δ m R →
    gTup K 2 (gCons (gName i) (gCons (gName j) gNil)) v (wipe σ [i, j]) H fun σ2 H2 => wipe σ2 [i, j] = wipe σ [i, j] ∧ H2 = H ∧ ∃ δ2, Rl K I σ2 δ2 ∧ R δ2 m := fun x v H I δ m R ok rl is q => by
  obtain ⟨a, b, rfl, q⟩ := dgPair_inv q
  cases (show Dp K I v (.tuple [a, b]) from is) with
  | tup sq al =>
    cases al with
    | cons h1 t =>
      cases t with
      | cons h2 t =>
        cases t
        refine ⟨_, _, rfl, SqT.same ok.im sq, rfl, _, _, rfl, _, _, rfl, rfl, wipe_set2 hij, rfl, _, (rl.set i (x := .d a) h1).set j (x := .d b) h2, q⟩
theorem mo_gT {K : PySem.W.Frag} : ∀ (v : V) (σ : St) (H : Hp) (R R' : St → Hp → Prop), (∀ σ H, R σ H → R' σ H) → gTup K 2 (gCons (gName i) (gCons (gName j) gNil)) v σ H R → gTup K 2 (gCons (gName i) (gCons (gName j) gNil)) v σ H R' := by
  rintro v σ H R R' h ⟨a, xs, e, sq, hl, v1, r1, e1, v2, r2, e2, e3, q⟩
  exact ⟨a, xs, e, sq, hl, v1, r1, e1, v2, r2, e2, e3, h _ _ q⟩
theorem de_lcP (hc : X.calm = true) (hN : X.N.Nodup) (hij : i ≠ j) (hi : DI X (.Tuple [.Name x px, .Name y py] kk ppos) iter w) (ok : BlkOk X.N X.env.scope scope [(x, i), (y, j)])
    (hx : X.N[i]? = some x) (hy : X.N[j]? = some y)
    (hg : ∀ (s : Shared) (H : Hp) (C : Addr) (cl : List (Str × Addr)) (fp : List Addr), PG (X.blk s H scope (compEnvC scope cl C X.env) fp) (.Tuple [.Name x px, .Name y py] kk ppos) (gTup X.K 2 (gCons (gName i) (gCons (gName j) gNil))))
    (ht : ∀ (s : Shared) (H : Hp) (C : Addr) (cl : List (Str × Addr)) (fp : List Addr), DTs (X.blk s H scope (compEnvC scope cl C X.env) fp) ifs tt)
    (he : ∀ (s : Shared) (H : Hp) (C : Addr) (cl : List (Str × Addr)) (fp : List Addr), DE (X.blk s H scope (compEnvC scope cl C X.env) fp) elt te) (hs : ∀ x, foldedSetIterable iter X.env x = pure x := by intro _; rfl) :
    DE X (.ListComp elt [⟨.Tuple [.Name x px, .Name y py] kk ppos, iter, ifs, 0⟩] scope pos) (dLc w (dgPair i j) tt te [i, j]) := by
  refine de_of (pe_lc (own := [(x, i), (y, j)]) (g := gTup X.K 2 (gCons (gName i) (gCons (gName j) gNil))) (tt := upB X.K tt) (te := up X.K te) hc hN hi.pi ok hg (fun s H C cl fp => (ht s H C cl fp).pts) (fun s H C cl fp => (he s H C cl fp).pe) hs) (mo_dLc hi.mono) fun σ H I δ m Q o r q => ?_
  have ht' : Mo tt := (ht X.s_0 X.H_0 0 [] []).mono
  have he' : Mo te := (he X.s_0 X.H_0 0 [] []).mono
  exact lc_up (X := X) (g := dgPair i j) (gH := gTup X.K 2 (gCons (gName i) (gCons (gName j) gNil))) (vs := [i, j]) hi.mono ht' he' mo_dgPair (gok2 hij) mo_gT o r q
end
section
variable {X : Cx} {a b c : Expr} {ta tb tc : TD} {pos : Pos}
end
section
variable {X : Cx} {e : Expr} {te : TD} {pos p2 : Pos} {lo hi : Option Expr}
abbrev TOd := Dn → M → (Option Int → M → Prop) → Prop
structure DO (X : Cx) (e : Option Expr) (t : TOd) : Prop where
  mono : Mo t
  po : PO X e (fun σ H Q => ∃ I δ m, Ok X.K H I m ∧ Rl X.K I σ δ ∧ t δ m (fun i m' => ∀ H' I', Same I I' → Ok X.K H' I' m' → Q i H'))
def dNoPart : TOd := fun _ m Q => Q none m
def dPart (t : TD) : TOd := fun δ m Q => t δ m fun x m1 => ∃ i, x = .d (.int i) ∧ Q (some i) m1
theorem PO.imp {e : Option Expr} {t t' : TO} (h : PO X e t) (i : ∀ σ H Q, t' σ H Q → t σ H Q) : PO X e t' := fun pins s σ H Q I q => h pins s σ H Q I (i σ H Q q)
theorem do_none : DO X none dNoPart := ⟨fun _ _ _ _ h q => h _ _ q, PO.imp po_none fun σ H Q ⟨I, δ, m, ok, rl, q⟩ => q H I (Same.refl _) ok⟩
theorem do_some {e : Expr} {t : TD} (h : DE X e t) : DO X (some e) (dPart t) := by
  refine ⟨fun δ m Q Q' hq q => h.mono δ m _ _ (fun x m1 ⟨i, e, z⟩ => ⟨i, e, hq _ _ z⟩) q, PO.imp (po_some h.pe) fun σ H Q ⟨I, δ, m, ok, rl, q⟩ => ?_⟩
  exact ⟨I, δ, m, ok, rl, h.mono δ m _ _ (fun x m1 ⟨i, e, z⟩ v H1 I1 s1 o1 i1 => ⟨i, by subst e; exact i1.int, z H1 I1 s1 o1⟩) q⟩
def cutD (xs : List PyData) (lo hi : Option Int) : List PyData := (xs.drop (HT.sIx xs.length 0 lo)).take (HT.sIx xs.length xs.length hi - HT.sIx xs.length 0 lo)
theorem dpAll_drop {K : PySem.W.Frag} {I : Hp} : ∀ {vs : List V} {xs : List PyData} (n : Nat), DpAll K I vs xs → DpAll K I (vs.drop n) (xs.drop n)
  | _, _, 0, h => h
  | _, _, n + 1, .nil => .nil
  | _, _, n + 1, .cons r t => dpAll_drop n t
theorem dpAll_take {K : PySem.W.Frag} {I : Hp} : ∀ {vs : List V} {xs : List PyData} (n : Nat), DpAll K I vs xs → DpAll K I (vs.take n) (xs.take n)
  | _, _, 0, h => .nil
  | _, _, n + 1, .nil => .nil
  | _, _, n + 1, .cons r t => .cons r (dpAll_take n t)
def dSl (te : TD) (tl th : TOd) : TD := fun δ m Q => te δ m fun x m1 => tl δ m1 fun l m2 => th δ m2 fun u m3 => (match x with
  | .d (.list xs) => Q (.d (.list (cutD xs l u))) m3
  | .d (.str z) => z.length ≤ 16777216 ∧ Q (.d (.str (cutS z l u))) m3
  | _ => False : Prop)
theorem mo_dSl {tl th : TOd} (h1 : Mo te) (h2 : Mo tl) (h3 : Mo th) : Mo (dSl te tl th) := fun δ m Q Q' hq q =>
  h1 δ m _ _ (fun x m1 q1 => h2 δ m1 _ _ (fun l m2 q2 => h3 δ m2 _ _ (fun u m3 q3 => by
    split at q3
    · exact hq _ _ q3
    · exact ⟨q3.1, hq _ _ q3.2⟩
    · exact q3.elim) q2) q1) q
def rSlB (K : PySem.W.Frag) : V → Option Int → Option Int → Hp → VK → Prop := fun x lo hi H Q => rSlL K x lo hi H Q ∨ rSlS x lo hi H Q
theorem sl_both : SlR X (rSlB X.K) := by
  intro pins s σ H x v vl vu lo hi sl Q I rx hs pl pu h
  rcases h with h | h
  · exact sl_list pins s σ H x v vl vu lo hi sl Q I rx hs pl pu h
  · exact sl_str pins s σ H x v vl vu lo hi sl Q I rx hs pl pu h
theorem de_slice {tl th : TOd} (he : DE X e te) (hl : DO X lo tl) (hu : DO X hi th) : DE X (.Subscript e (.Slice lo hi none p2) pos) (dSl te tl th) := by
  refine de_of (pe_slice sl_both he.pe hl.po hu.po) (mo_dSl he.mono hl.mono hu.mono) fun σ H I δ m Q ok rl q => ?_
  refine ⟨I, δ, m, ok, rl, he.mono δ m _ _ (fun x m1 q1 v1 H1 I1 s1 o1 i1 => ?_) q⟩
  refine ⟨I1, δ, m1, o1, rl.same s1, hl.mono δ m1 _ _ (fun l m2 q2 H2 I2 s2 o2 => ?_) q1⟩
  refine ⟨I2, δ, m2, o2, (rl.same s1).same s2, hu.mono δ m2 _ _ (fun u m3 q3 H3 I3 s3 o3 => ?_) q2⟩
  split at q3
  · cases (show Dp X.K I1 v1 (.list _) from i1) with
    | lst sq al =>
      have al3 := DpAll.same (s2.trans s3) al
      refine .inl ⟨_, _, rfl, Same.seq ((s2.trans s3).trans o3.im) sq, fun p hp => qd_newL o3 ((s1.trans s2).trans s3) hp ?_ q3⟩
      unfold cutV cutD
      rw [dpAll_len al]
      exact dpAll_take _ (dpAll_drop _ al3)
  · have := i1.str
    subst this
    exact .inr ⟨_, rfl, by rw [sizeLine_eq]; exact q3.1, qd_same o3 ((s1.trans s2).trans s3) (isS _) q3.2⟩
  · exact q3.elim
end
end DL
namespace DL
open PySem PySem.Spec PyProof.Rows L2
theorem forIn_up {M : Model} {A : Around} {E : Value → Shared → Prop} {β : Type} (f : Nat → β → Sem (ForInStep β)) (J : Nat → β → Shared → Prop) (Q : β → Shared → Prop) :
    ∀ (k i : Nat) (b : β) (s : Shared), J i b s → (∀ n b s, n < i + k → J n b s → wpAny M A (f n b) (fun r s' => match r with | .yield b' => J (n + 1) b' s' | .done b' => Q b' s') E s) → (∀ b s, J (i + k) b s → Q b s) →
      wpAny M A (forIn (List.range' i k) b f) Q E s
  | 0, i, b, s, h, _, hd => by
    simp only [List.range'_zero, List.forIn_nil]
    exact wpAny_pure (hd b s h)
  | k + 1, i, b, s, h, ht, hd => by
    rw [List.range'_succ, List.forIn_cons]
    refine wpAny_bind (wpAny_mono (ht i b s (by omega) h) (fun r s' hr => ?_) fun _ _ x => x)
    cases r with
    | done b' => exact wpAny_pure hr
    | yield b' => exact forIn_up f J Q k (i + 1) b' s' hr (fun n b s hn => ht n b s (by omega)) (fun b s hj => hd b s (by rw [show i + (k + 1) = i + 1 + k by omega]; exact hj))
theorem tuple_indexAt (l : Addr) (items : Array Value) (x : Value) (n : Nat) (dd : Option Addr) (sl : Array (Option Value)) (e : Value → Bool) (j : Nat) (hj : j < items.size) (hit : e items[j] = true) (hno : ∀ m (hm : m < items.size), m < j → e items[m] = false) :
    Meets (Builtin.«tuple.index» ⟨[.ref l, x], []⟩)
      (fun A R s => s.heap.get? l = some { cls := .type "tuple", dict := dd, data := .seq items n, slots := sl } ∧ (∀ y, y ∈ items → SeqAt.EqAt A.in1 s y x (e y)) ∧ R (.ok (.ret (.int j s.toks))) { s with toks := s.toks + 1 }) := by
  intro prog w A R s h
  obtain ⟨hp, g, d, tk, os⟩ := s; obtain ⟨hl, he, h⟩ := h
  unfold Builtin.«tuple.index»
  simp only [Std.Legacy.Range.forIn_eq_forIn_range']
  wp_walk using wpAny_loadPart' hl, forIn_up _ (fun i b s' => b.1 = none ∧ i ≤ j ∧ s' = ⟨hp, g, d, tk, os⟩) _ _ _ _ _
  · exact ⟨rfl, Nat.zero_le _, rfl⟩
  · rintro k b s' hk ⟨hb, hkj, rfl⟩
    have hk2 : k < items.size := by omega
    have e1 : items[k]? = some items[k] := by simp [hk2]
    simp only [e1]
    refine wpAny_bind (he items[k] (Array.getElem_mem hk2) prog w _ _ ?_)
    by_cases hj2 : k = j
    · subst hj2
      rw [hit]
      wp_walk
      exact h
    · rw [hno k hk2 (by omega)]
      wp_walk
      exact ⟨rfl, by omega, rfl⟩
  · rintro b s' ⟨hb, hkj, rfl⟩
    exfalso
    simp at hkj
    omega
section
variable {X : Cx} {a b c o e : Expr} {es : List Expr} {ta tb tc to te : TD} {t : TAd} {pos apos : Pos}
def rIndexT (K : PySem.W.Frag) : V → List V → Hp → VK → Prop := fun x xs H Q => ∃ (a : Addr) (ys : List V) (y : V) (j : Nat) (z : V), x = V.ref a ∧ xs = [y] ∧ SqT K H a ys ∧ flatV y = true ∧ ys.all flatV = true ∧ ys[j]? = some z ∧ eqV z y = true ∧
  (∀ (m : Nat) (z' : V), m < j → ys[m]? = some z' → eqV z' y = false) ∧ Q (.int (j : Nat)) H
theorem mt_indexT : MtR X "tuple.index" (rIndexT X.K) := by
  intro pins s σ H x xs v us Q I rx rxs h
  obtain ⟨a, ys, y, j, z, rfl, rfl, hs, fy, fys, hz, hzj, hno, q⟩ := h
  cases rx
  cases rxs with
  | cons ry rt =>
    rename_i uy ut
    cases rt
    obtain ⟨its, rv, ⟨⟨cls, dd, data, sl⟩, ho, hc, n, hd⟩, hlen⟩ := I.tuple hs
    simp only at hc hd
    subst hc hd
    obtain ⟨u, hu, ru⟩ := rv.get hz
    obtain ⟨hjl, hje⟩ := List.getElem?_eq_some_iff.mp hu
    have hvl := rv.length
    have hj : j < its.toArray.size := by simpa using hjl
    refine call_meets PySem.F.slot_tuple_index ⟨_, ho, rfl⟩ PySem.F.entry_tuple_index (PySem.F.args_tuple_index_2 _ _)
      (tuple_indexAt a its.toArray uy n dd sl (eqU y) j hj ?_ ?_) ⟨ho, fun u' hu' => mem_eqAt ry fy rv fys u' (by simpa using hu'), ?_⟩
    · have e1 : its.toArray[j] = u := by simpa using hje
      rw [e1, eqU_of ru (flat_at fys hz)]
      exact hzj
    · intro m hm hmj
      have hml : m < its.length := by simpa using hm
      have hmy : m < ys.length := by omega
      have hy' : ys[m]? = some ys[m] := List.getElem?_eq_getElem hmy
      obtain ⟨u2, hu2, ru2⟩ := rv.get hy'
      obtain ⟨_, hme⟩ := List.getElem?_eq_some_iff.mp hu2
      have e1 : its.toArray[m] = u2 := by simpa using hme
      rw [e1, eqU_of ru2 (flat_at fys hy')]
      exact hno m _ hmj hy'
    · exact ⟨.int (j : Nat), H, I.tok _, ⟨_, rfl⟩, q⟩
def idxD (x : PyData) : List PyData → Option Nat
  | [] => none
  | y :: ys => if PyData.eqv y x = true then some 0 else (idxD x ys).map (· + 1)
theorem idxD_spec {x : PyData} : ∀ {ys : List PyData} {j : Nat}, idxD x ys = some j → (∃ z, ys[j]? = some z ∧ PyData.eqv z x = true) ∧ ∀ m z', m < j → ys[m]? = some z' → PyData.eqv z' x = false
  | [], j, h => by cases h
  | y :: ys, j, h => by
    unfold idxD at h
    by_cases e : PyData.eqv y x = true
    · rw [if_pos e] at h; cases h
      exact ⟨⟨y, rfl, e⟩, fun m z' hm => absurd hm (Nat.not_lt_zero _)⟩
    · rw [if_neg e] at h
      cases q : idxD x ys with
      | none => rw [q] at h; cases h
      | some k =>
        rw [q] at h; cases h
        obtain ⟨⟨z, h1, h2⟩, h3⟩ := idxD_spec q
        refine ⟨⟨z, by simpa using h1, h2⟩, fun m z' hm hz => ?_⟩
        cases m with
        | zero => simp at hz; subst hz; simpa using e
        | succ m => exact h3 m z' (by have : m + 1 < k + 1 := hm; omega) (by simpa using hz)
def dIndexT (ys : List PyData) (te : TD) : TD := fun δ m Q => te δ m fun x m1 => (match x with
  | .d y => flatD y = true ∧ ∃ j : Nat, idxD y ys = some j ∧ Q (.d (.int j)) m1
  | _ => False : Prop)
theorem de_indexT {x : Str} {p : Pos} {f : Addr} {ob : Obj} {vs : List V} {ys : List PyData} (hg : Gl X x) (hm : X.mg x = some (.ref f)) (hk : X.K.lookup f = some ob) (hc : ob.cls = .type "tuple") (hd : ob.dict = none) (hv : ∀ I, SqT X.K I f vs) (hy : ∀ I, DpAll X.K I vs ys) (hf : ys.all flatD = true) (he : DE X e te)
    (hdb : (x == ("__debug__" : Str)) = false := by decide)
    (hbase : attributeBase (.Name x p) "index" X.env (eval (.Name x p) X.env) = eval (.Name x p) X.env := by rfl)
    (hfew : ((backTo pos (starEach [e] X.env)).all (fun x => !x.1) && (backToKw pos (keywordEach [] X.env)).all (fun x => x.1.isSome)
      && decide (([e] : List Expr).length + ([] : List Keyword).length + (if ([] : List Keyword).isEmpty then 0 else 1) < 30)) = true := by rfl)
    (hline : (apos.endLine == pos.line) = true := by rfl) (hs : starEach [e] X.env = (false, eval e X.env) :: starEach [] X.env := by rfl) (hplain : (backTo pos (starEach [] X.env)).any (·.1) = false := by rfl) :
    DE X (.Call (.Attribute (.Name x p) "index" apos) [e] [] pos) (dIndexT ys te) := by
  have mo : Mo (dIndexT ys te) := fun δ m Q Q' hq q => he.mono δ m _ _ (fun x m1 z => by
    split at z
    · obtain ⟨f, j, e, z⟩ := z; exact ⟨f, j, e, hq _ _ z⟩
    · exact z.elim) q
  refine de_of (pe_bm (hbase := hbase) (hfew := hfew) (hline := hline) (hs := hs) (hplain := hplain) PySem.F.plainAttrs_tuple PySem.F.slot_tuple_index PySem.F.type_tuple_index mt_indexT (pe_glob (v := .ref f) hg hm rfl hdb) (pa_cons he.pe pa_nil hs)) mo fun σ H I δ m Q ok rl q => ?_
  refine ⟨.inr (.inl ⟨rfl, ob, hk, hc, hd⟩), I, δ, m, ok, rl, he.mono δ m _ _ (fun x m1 q1 v1 H1 I1 s1 o1 i1 => ?_) q⟩
  split at q1
  · obtain ⟨fx, j, ej, q1⟩ := q1
    obtain ⟨⟨z, h1, h2⟩, h3⟩ := idxD_spec ej
    have al := hy I1
    have z1 : (ys.map Dv.d)[j]? = some (.d z) := by rw [List.getElem?_map, h1]; rfl
    obtain ⟨w, hw, iw⟩ := paired_get (isAll_of al) z1
    have fz : ∀ (m : Nat) z, ys[m]? = some z → flatD z = true := fun m z h => List.all_eq_true.mp hf z (List.mem_of_getElem? h)
    refine ⟨f, vs, v1, j, w, rfl, rfl, hv H1, flat_of i1 fx, flats_of al hf, hw, ?_, fun m w' hm hw' => ?_, qd_same o1 s1 (isI _) q1⟩
    · rw [eqV_of iw i1 (fz j z h1) fx]; exact h2
    · have hb : m < ys.length := by
        have := (List.getElem?_eq_some_iff.mp hw').1
        rw [dpAll_len al] at this; exact this
      have z2 : (ys.map Dv.d)[m]? = some (.d ys[m]) := by rw [List.getElem?_map, List.getElem?_eq_getElem hb]; rfl
      obtain ⟨w2, hw2, iw2⟩ := paired_get (isAll_of al) z2
      rw [hw'] at hw2; cases hw2
      rw [eqV_of iw2 i1 (fz m _ (List.getElem?_eq_getElem hb)) fx]
      exact h3 m _ hm (List.getElem?_eq_getElem hb)
  · exact q1.elim
theorem mt_bits : MtR X "int.bit_length" (fun x xs H Q => ∃ i, x = .int i ∧ xs = [] ∧ Q (.int (Builtin.Int.intBits i)) H) := by
  intro pins s σ H x xs v us Q I rx rxs h
  obtain ⟨i, rfl, rfl, q⟩ := h
  obtain ⟨t, rfl⟩ := rx
  cases rxs
  exact call_int_bit_length ⟨.int _, H, I.tok _, ⟨_, rfl⟩, q⟩
theorem de_bits (ho : DE X o to) (hbase : attributeBase o "bit_length" X.env (eval o X.env) = eval o X.env := by rfl) (hline : (apos.endLine == pos.line) = true := by rfl) :
    DE X (.Call (.Attribute o "bit_length" apos) [] [] pos) (dUn (g1I fun i => (Builtin.Int.intBits i : Int)) to) := by
  refine de_of (pe_bm0 (hbase := hbase) (hline := hline) PySem.F.plainAttrs_int PySem.F.slot_int_bit_length PySem.F.type_int_bit_length mt_bits ho.pe) (mo_dUn (o1_I (K := X.K)).mono ho.mono) fun σ H I δ m Q ok rl q => ?_
  refine ⟨I, δ, m, ok, rl, ho.mono δ m _ _ (fun x m1 q1 v1 H1 I1 s1 o1 i1 => ?_) q⟩
  obtain ⟨i, rfl, q1⟩ := g1I_inv q1
  have := i1.int
  subst this
  exact ⟨rfl, i, rfl, rfl, qd_same o1 s1 (isI _) q1⟩
section
variable {prog : Program} {w : World} {A : Around} {E : Value → Shared → Prop} {s : Shared} {l : Addr} {its : List Value} {ns : List Int} {Q : Value → Shared → Prop}
end
def intsD : List PyData → Option (List Int)
  | [] => some []
  | .int i :: r => (intsD r).map (i :: ·)
  | _ :: _ => none
def gBest (f : List Int → Int) : RAD
  | [.d (.list xs)], m, Q => ∃ ns, intsD xs = some ns ∧ 0 < ns.length ∧ Q (.d (.int (f ns))) m
  | [.d (.tuple xs)], m, Q => ∃ ns, intsD xs = some ns ∧ 0 < ns.length ∧ Q (.d (.int (f ns))) m
  | _, _, _ => False
end
end DL
namespace DL
open PySem PySem.Spec PyProof.Rows L2
section
variable {X : Cx} {a b c o e : Expr} {es : List Expr} {ta tb tc to te : TD} {t : TAd} {pos apos : Pos}
def gAppend : Dv → Dv → M → QD → Prop
  | .r a, v, m, Q => ∃ xs, m a = some (.lst xs) ∧ xs.length < 16777216 ∧ Q (.d .none) (setM m a (.lst (xs ++ [v])))
  | _, _, _, _ => False
def dAppend (to te : TD) : TD := fun δ m Q => to δ m fun x m1 => (∃ a xs, x = .r a ∧ m1 a = some (.lst xs)) ∧ te δ m1 fun v m2 => gAppend x v m2 Q
theorem gAppend_mono {x v : Dv} {m : M} {Q Q' : QD} (h : ∀ d m, Q d m → Q' d m) (q : gAppend x v m Q) : gAppend x v m Q' := by
  cases x with
  | d y => exact q.elim
  | r a => obtain ⟨xs, e, l, q⟩ := q; exact ⟨xs, e, l, h _ _ q⟩
theorem de_append (ho : DE X o to) (he : DE X e te)
    (hbase : attributeBase o "append" X.env (eval o X.env) = eval o X.env := by rfl)
    (hfew : ((backTo pos (starEach [e] X.env)).all (fun x => !x.1) && (backToKw pos (keywordEach [] X.env)).all (fun x => x.1.isSome)
      && decide (([e] : List Expr).length + ([] : List Keyword).length + (if ([] : List Keyword).isEmpty then 0 else 1) < 30)) = true := by rfl)
    (hline : (apos.endLine == pos.line) = true := by rfl) (hs : starEach [e] X.env = (false, eval e X.env) :: starEach [] X.env := by rfl) (hplain : (backTo pos (starEach [] X.env)).any (·.1) = false := by rfl) :
    DE X (.Call (.Attribute o "append" apos) [e] [] pos) (dAppend to te) := by
  have mo : Mo (dAppend to te) := fun δ m Q Q' hq q => ho.mono δ m _ _ (fun x m1 ⟨z1, z2⟩ => ⟨z1, he.mono δ m1 _ _ (fun v m2 z => gAppend_mono hq z) z2⟩) q
  refine de_of (pe_bm (hbase := hbase) (hfew := hfew) (hline := hline) (hs := hs) (hplain := hplain) PySem.F.plainAttrs_list PySem.F.slot_list_append PySem.F.type_list_append mt_append ho.pe (pa_cons he.pe pa_nil hs)) mo fun σ H I δ m Q ok rl q => ?_
  refine ⟨I, δ, m, ok, rl, ho.mono δ m _ _ (fun x m1 ⟨⟨a, xs, ex, exs⟩, z⟩ v1 H1 I1 s1 o1 i1 => ?_) q⟩
  subst ex
  have i1 : v1 = .ref a := i1
  subst i1
  obtain ⟨vs, hv, al⟩ := o1.lst exs
  refine ⟨.inl ⟨rfl, vs, SqL.of hv⟩, I1, δ, m1, o1, rl.same s1, he.mono δ m1 _ _ (fun v m2 q2 v2 H2 I2 s2 o2 i2 => ?_) z⟩
  obtain ⟨ys, ey, hl, q2⟩ := q2
  obtain ⟨ws, hw, bl⟩ := o2.lst ey
  refine ⟨a, ws, v2, rfl, rfl, hw, by rw [sizeLine_eq, paired_len bl]; exact hl, ?_⟩
  exact ⟨I2, .d .none, setM m2 a (.lst (ys ++ [v])), s1.trans s2, o2.put ey (o := .lst (ws ++ [v2])) (q := .lst (ys ++ [v])) (show MRel X.K I2 (.lst (ws ++ [v2])) (.lst (ys ++ [v])) from (paired_app bl (.cons i2 .nil) : IsAll X.K I2 _ _)), isN, q2⟩
def g2B (f : Bool → Bool → Bool) : R2D
  | .d (.bool b), .d (.bool c), m, Q => Q (.d (.bool (f b c))) m
  | _, _, _, _ => False
def g1N (neg : Bool) : R2D
  | .d x, .d .none, m, Q => Q (.d (.bool (match x with | .none => !neg | _ => neg))) m
  | .r _, .d .none, m, Q => Q (.d (.bool neg)) m
  | _, _, _, _ => False
theorem o2_isN {K : PySem.W.Frag} : Op2 K (fun x y H Q => y = .non ∧ Q (.bl (decide (x = .non))) H) (g1N false) := by
  refine ⟨fun x y m Q Q' h q => ?_, fun H I0 I m x y v w Q ok s hx hy q => ?_⟩
  · unfold g1N at q ⊢
    split at q
    · exact h _ _ q
    · exact h _ _ q
    · exact q.elim
  · unfold g1N at q
    split at q
    · refine ⟨hy.non, ?_⟩
      have e : decide (v = V.non) = (match (‹PyData› : PyData) with | .none => !false | _ => false) := by
        cases (show Dp K I v _ from hx) <;> rfl
      rw [e]
      exact qd_same ok s (isB _) q
    · refine ⟨hy.non, ?_⟩
      have hx : v = .ref _ := hx
      subst hx
      exact qd_same ok s (isB _) q
    · exact q.elim
theorem de_isN {k} {p2 : Pos} (ha : DE X a ta) : DE X (.Compare a [.Is] [.Constant .none k p2] pos) (dOp (g1N false) ta (dC .none)) := de_cmp op_isN o2_isN ha de_non (nomark _)
theorem dt_isN {k} {p2 : Pos} (ha : DE X a ta) : DT X (.Compare a [.Is] [.Constant .none k p2] pos) (dTest (dOp (g1N false) ta (dC .none))) := dt_cmp op_isN o2_isN ha de_non (nomark _)
theorem lift_m1 {id : String} {name : Str} {r : V → List V → Hp → VK → Prop} {rd : R2D} (slot : Slot "str" name id) (ty : typeOf (.builtin id) = pure (.type "method_descriptor")) (rule : MtR X id r)
    (mo2 : Mo2 rd) (rdS : ∀ x y m Q, rd x y m Q → ∃ s, x = .d (.str s)) (ok2 : ∀ H I0 I m x y v w Q, Ok X.K H I m → Same I0 I → Is X.K I v x → Is X.K I w y → rd x y m Q → r v [w] H (Qd X.K I0 Q)) (ho : DE X o to) (he : DE X e te)
    (hs : starEach [e] X.env = [(false, eval e X.env)] := by rfl) (hbase : attributeBase o name X.env (eval o X.env) = eval o X.env := by rfl) (hline : (apos.endLine == pos.line) = true := by rfl) :
    DE X (.Call (.Attribute o name apos) [e] [] pos) (fun δ m Q => to δ m fun x m1 => (∃ s, x = .d (.str s)) ∧ te δ m1 fun y m2 => rd x y m2 Q) := by
  refine de_of (pe_m1 slot ty rule ho.pe he.pe hs hbase hline) (fun δ m Q Q' hq q => ho.mono δ m _ _ (fun x m1 ⟨z, q1⟩ => ⟨z, he.mono δ m1 _ _ (fun y m2 q2 => mo2 x y m2 Q Q' hq q2) q1⟩) q) fun σ H I δ m Q ok rl q => ?_
  refine ⟨I, δ, m, ok, rl, ho.mono δ m _ _ (fun x m1 ⟨⟨s, ex⟩, q1⟩ v1 H1 I1 s1 o1 i1 => ?_) q⟩
  subst ex
  refine ⟨⟨s, i1.str⟩, I1, δ, m1, o1, rl.same s1, he.mono δ m1 _ _ (fun y m2 q2 v2 H2 I2 s2 o2 i2 => ?_) q1⟩
  exact ok2 H2 I I2 m2 _ y v1 v2 Q o2 (s1.trans s2) (i1.same s2) i2 q2
def dM1 (rd : R2D) (to te : TD) : TD := fun δ m Q => to δ m fun x m1 => (∃ s, x = .d (.str s)) ∧ te δ m1 fun y m2 => rd x y m2 Q
theorem mt_sindex : MtR X "str.index" (fun x xs H Q => ∃ a b i rest, x = .str a ∧ xs = [.str b] ∧ Builtin.Str.occurrences a b 0 a.length 1 = i :: rest ∧ Q (.int (i : Nat)) H) := by
  intro pins s σ H x xs v us Q I rx rs h
  obtain ⟨a, b, i, rest, rfl, rfl, ho, q⟩ := h
  obtain ⟨t, rfl⟩ := rx
  obtain ⟨u, rfl, t', rfl⟩ := vals1 rs
  exact call_gives PySem.F.slot_str_index (typeIs_str s a t) PySem.F.entry_str_index (PySem.F.args_str_index_2 _ _) (gives_str_index a b t t' i rest ho) ⟨.int _, H, I.tok _, ⟨_, rfl⟩, q⟩
def gSIndex : R2D
  | .d (.str a), .d (.str b), m, Q => ∃ i rest, Builtin.Str.occurrences a b 0 a.length 1 = i :: rest ∧ Q (.d (.int (i : Nat))) m
  | _, _, _, _ => False
theorem de_sindex (ho : DE X o to) (he : DE X e te)
    (hs : starEach [e] X.env = [(false, eval e X.env)] := by rfl) (hbase : attributeBase o "index" X.env (eval o X.env) = eval o X.env := by rfl) (hline : (apos.endLine == pos.line) = true := by rfl) :
    DE X (.Call (.Attribute o "index" apos) [e] [] pos) (dM1 gSIndex to te) := by
  have inv : ∀ {x y m Q}, gSIndex x y m Q → ∃ a b i rest, x = .d (.str a) ∧ y = .d (.str b) ∧ Builtin.Str.occurrences a b 0 a.length 1 = i :: rest ∧ Q (.d (.int (i : Nat))) m := fun {x y m Q} q => by
    unfold gSIndex at q; split at q
    · obtain ⟨i, rest, e, q⟩ := q; exact ⟨_, _, i, rest, rfl, rfl, e, q⟩
    · exact q.elim
  refine lift_m1 PySem.F.slot_str_index PySem.F.type_str_index mt_sindex (fun x y m Q Q' h q => ?_) (fun x y m Q q => ?_) (fun H I0 I m x y v w Q ok s hx hy q => ?_) ho he hs hbase hline
  · obtain ⟨a, b, i, rest, rfl, rfl, e, q⟩ := inv q; exact ⟨i, rest, e, h _ _ q⟩
  · obtain ⟨a, b, i, rest, rfl, _⟩ := inv q; exact ⟨a, rfl⟩
  · obtain ⟨a, b, i, rest, rfl, rfl, e, q⟩ := inv q
    exact ⟨a, b, i, rest, hx.str, by rw [hy.str], e, qd_same ok s (isI _) q⟩
def CShl (i j : Int) : Prop := 0 ≤ j ∧ (Builtin.Int.intBits i : Int) + j ≤ 2 ^ 27
theorem op_shlB : OpR X (binaryOp .LShift) (rI CShl fun i j => .int (i * 2 ^ j.toNat)) := opI fun _ _ _ _ _ _ _ hc q => lshift_int hc.1 hc.2 q
theorem de_shlB (ha : DE X a ta) (hb : DE X b tb) : DE X (.BinOp a .LShift b pos) (dOp (gI CShl fun i j => i * 2 ^ j.toNat) ta tb) := de_op op_shlB o2_I ha hb
end
def tyD : PyData → String
  | .none => "NoneType" | .bool _ => "bool" | .int _ => "int" | .str _ => "str" | .list _ => "list" | .tuple _ => "tuple" | .dict _ => "dict"
section
variable {X : Cx} {a b c o e : Expr} {ta te : TD} {pos apos p p2 : Pos}
def dIsi (yes : String → Bool) (te : TD) : TD := fun δ m Q => te δ m fun x m1 => (match x with
  | .d d => Q (.d (.bool (yes (tyD d)))) m1
  | .r _ => False : Prop)
theorem mo_dIsi {yes : String → Bool} (h : Mo te) : Mo (dIsi yes te) := fun δ m Q Q' hq q => h δ m _ _ (fun x m1 z => by
  cases x with
  | d d => exact hq _ _ z
  | r a => exact z.elim) q
end
end DL
namespace DL
open PySem PySem.Spec PyProof.Rows L2
def SqIt (tu : Bool) (h : Heap) (i l : Addr) (k : Nat) : Prop := if tu = true then h.IsTupleIter i l k else h.IsListIter i l k
def SqAt (tu : Bool) (h : Heap) (l : Addr) (xs : Array Value) : Prop := if tu = true then h.IsTuple l xs else h.IsList l xs
def itTy (tu : Bool) : String := if tu = true then "tuple_iterator" else "list_iterator"
theorem SqIt.obj {tu : Bool} {h : Heap} {i l : Addr} {k : Nat} (x : SqIt tu h i l k) : ∃ o, h.get? i = some o ∧ o.data = .fields #[.ref l, .int k 0] := by
  cases tu with
  | true => obtain ⟨o, ho, _, d⟩ := x; exact ⟨o, ho, d⟩
  | false => obtain ⟨o, ho, _, d⟩ := x; exact ⟨o, ho, d⟩
theorem SqIt.to {tu : Bool} {h h' : Heap} {i l : Addr} {k : Nat} (x : SqIt tu h i l k) (e : ∀ o, h.get? i = some o → h'.get? i = some o) : SqIt tu h' i l k := by
  cases tu with
  | true => obtain ⟨o, ho, r⟩ := x; exact ⟨o, e o ho, r⟩
  | false => obtain ⟨o, ho, r⟩ := x; exact ⟨o, e o ho, r⟩
theorem SqAt.to {tu : Bool} {h h' : Heap} {l : Addr} {xs : Array Value} (x : SqAt tu h l xs) (e : ∀ o, h.get? l = some o → h'.get? l = some o) : SqAt tu h' l xs := by
  cases tu with
  | true => obtain ⟨o, ho, r⟩ := x; exact ⟨o, e o ho, r⟩
  | false => obtain ⟨o, ho, r⟩ := x; exact ⟨o, e o ho, r⟩
theorem SqAt.lt {tu : Bool} {h : Heap} {l : Addr} {xs : Array Value} (x : SqAt tu h l xs) : l < h.objs.size := by
  cases tu with
  | true => obtain ⟨o, ho, r⟩ := x; exact Heap.lt_size ho
  | false => obtain ⟨o, ho, r⟩ := x; exact Heap.lt_size ho
theorem SqIt.new {tu : Bool} {h : Heap} {l : Addr} : SqIt tu (h.push { cls := .type (itTy tu), data := .fields #[.ref l, .int 0 0] }) h.objs.size l 0 := by
  cases tu with
  | true => exact ⟨_, Heap.get?_push_size _ rfl, rfl, rfl⟩
  | false => exact ⟨_, Heap.get?_push_size _ rfl, rfl, rfl⟩
section
variable {prog : Program} {w : World} {A : Around} {E : Value → Shared → Prop} {s : Shared}
theorem sq_iter {tu : Bool} {l : Addr} {xs} {Q : Value → Shared → Prop} (hl : SqAt tu s.heap l xs)
    (hQ : Q (.ref s.heap.objs.size) { s with heap := s.heap.push { cls := .type (itTy tu), data := .fields #[.ref l, .int 0 0] } }) : wpAny (model prog w) A (pyIter (.ref l)) Q E s := by
  cases tu with
  | true => exact wpAny_pyIter_tuple hl hQ
  | false => exact wpAny_pyIter_list hl hQ
theorem nextT_item {it t : Addr} {i : Nat} {items : Array Value} {x : Value} {Q : Value → Shared → Prop} (hit : s.heap.IsTupleIter it t i) (ht : s.heap.IsTuple t items) (hx : items[i]? = some x)
    (hQ : ∀ h', h'.IsTupleIter it t (i + 1) → Heap.SameBut it s.heap h' → Q x { s with heap := h' }) : wpAny (model prog w) A (Builtin.SmallTypes.nextOf (.ref it)) Q E s := by
  obtain ⟨o, ho, hc, hd⟩ := id hit
  obtain ⟨ol, hol, _, nl, hdl⟩ := ht
  unfold Builtin.SmallTypes.nextOf
  refine wpAny_bind (wpAny_callSpecial?_slot (name := Str.ofString "__next__") hit.typeIs F.slot_tuple_iterator_next (wpAny_call_entry F.slot_tuple_iterator_next hit.typeIs F.entry_tuple_iterator_next ?_ (F.args_tuple_iterator_next_1 _)))
  show wpAny _ _ (field (.ref it) 0 >>= _) _ _ s
  refine wpAny_bind (wpAny_field ho hd (x := .ref t) rfl ?_)
  show wpAny _ _ (if (Value.ref t == Value.none) = true then _ else _) _ _ s
  rw [if_neg (show ¬ ((Value.ref t == Value.none) = true) from Bool.false_ne_true)]
  show wpAny _ _ (field (.ref it) 1 >>= _) _ _ s
  refine wpAny_bind (wpAny_field ho hd (x := .int i 0) rfl ?_)
  show wpAny _ _ (seqItems? (.ref t) >>= _) _ _ s
  refine wpAny_bind (wpAny_seqItems hol hdl ?_)
  simp only [Int.toNat_natCast, hx]
  refine wpAny_bind (wpAny_setField ho hd (by simp) (wpAny_pure ⟨x, rfl, wpAny_pure (hQ _ ?_ (Heap.SameBut.update ..))⟩))
  exact ⟨_, Heap.get?_update_self _ ho (Obj.isFreed_of_fields (Obj.data_mapFields hd _)), (Obj.cls_mapFields ..).trans hc, by rw [Obj.data_mapFields hd]; simp [rawInt]⟩
theorem nextT_end {it t : Addr} {i : Nat} {items : Array Value} {Q : Value → Shared → Prop} (hh : A.handled = none) (hit : s.heap.IsTupleIter it t i) (ht : s.heap.IsTuple t items) (hx : items[i]? = none)
    (hE : ∀ h' e, Heap.ExtBut it s.heap h' → (∃ o, h'.get? e = some o ∧ o.cls = .type "StopIteration") → E (.ref e) { s with heap := h' }) : wpAny (model prog w) A (Builtin.SmallTypes.nextOf (.ref it)) Q E s := by
  obtain ⟨o, ho, hc, hd⟩ := id hit
  obtain ⟨ol, hol, _, nl, hdl⟩ := ht
  unfold Builtin.SmallTypes.nextOf
  refine wpAny_bind (wpAny_callSpecial?_slot (name := Str.ofString "__next__") hit.typeIs F.slot_tuple_iterator_next (wpAny_call_entry F.slot_tuple_iterator_next hit.typeIs F.entry_tuple_iterator_next ?_ (F.args_tuple_iterator_next_1 _)))
  show wpAny _ _ (field (.ref it) 0 >>= _) _ _ s
  refine wpAny_bind (wpAny_field ho hd (x := .ref t) rfl ?_)
  show wpAny _ _ (if (Value.ref t == Value.none) = true then _ else _) _ _ s
  rw [if_neg (show ¬ ((Value.ref t == Value.none) = true) from Bool.false_ne_true)]
  show wpAny _ _ (field (.ref it) 1 >>= _) _ _ s
  refine wpAny_bind (wpAny_field ho hd (x := .int i 0) rfl ?_)
  show wpAny _ _ (seqItems? (.ref t) >>= _) _ _ s
  refine wpAny_bind (wpAny_seqItems hol hdl ?_)
  simp only [Int.toNat_natCast, hx]
  refine wpAny_bind (wpAny_rule (wpAny_bind (wpAny_setField ho hd (by simp) ?_)))
  show wpAny _ _ (newExc (.type "StopIteration") [] >>= _) _ _ _
  refine wpAny_bind ?_
  simp only [newExc, newTuple]
  refine wpAny_bind (wpAny_newObj_type ?_ (by size_fits))
  refine wpAny_bind (m := firstArgMember _ _) (wpAny_of_eq (a := Value.none) (by first | rfl | (simp only [firstArgMember]; rfl)) ?_)
  refine wpAny_newObj_type ?_ (by size_fits)
  simp only [raiseNew]
  refine wpAny_bind (wpAny_handled ?_)
  first | rw [show A.in1.handled = none from hh] | rw [hh]
  refine wpAny_bind (wpAny_pure (wpAny_throw ?_))
  exact hE _ _ (((Heap.SameBut.update ..).extBut.push _).push _) ⟨_, Heap.get?_push_size _ rfl, rfl⟩
theorem sq_next {tu : Bool} {it l : Addr} {i : Nat} {xs : Array Value} {x : Value} {Q : Value → Shared → Prop} (hit : SqIt tu s.heap it l i) (hl : SqAt tu s.heap l xs) (hx : xs[i]? = some x)
    (hQ : ∀ h', SqIt tu h' it l (i + 1) → Heap.SameBut it s.heap h' → Q x { s with heap := h' }) : wpAny (model prog w) A (Builtin.SmallTypes.nextOf (.ref it)) Q E s := by
  cases tu with
  | true => exact nextT_item hit hl hx hQ
  | false => exact wpAny_nextOf_list_item hit hl hx hQ
theorem sq_end {tu : Bool} {it l : Addr} {i : Nat} {xs : Array Value} {Q : Value → Shared → Prop} (hh : A.handled = none) (hit : SqIt tu s.heap it l i) (hl : SqAt tu s.heap l xs) (hx : xs[i]? = none)
    (hE : ∀ h' e, Heap.ExtBut it s.heap h' → (∃ o, h'.get? e = some o ∧ o.cls = .type "StopIteration") → E (.ref e) { s with heap := h' }) : wpAny (model prog w) A (Builtin.SmallTypes.nextOf (.ref it)) Q E s := by
  cases tu with
  | true => exact nextT_end hh hit hl hx hE
  | false => exact wpAny_nextOf_list_end hh hit hl hx hE
variable {z TI TO i1 i2 l1 l2 : Addr} {k1 k2 : Nat} {xs ys : Array Value} {x y a b : Value} {tu tv : Bool}
theorem zipS_item {Q : Value → Shared → Prop} (D : ZipApart z TI TO i1 i2 l1 l2)
    (hz : IsZip s.heap z TI TO .none) (hTI : IsPair s.heap TI (.ref i1) (.ref i2)) (hTO : IsPair s.heap TO a b)
    (h1 : SqIt tu s.heap i1 l1 k1) (h2 : SqIt tv s.heap i2 l2 k2) (hl1 : SqAt tu s.heap l1 xs) (hl2 : SqAt tv s.heap l2 ys) (hx : xs[k1]? = some x) (hy : ys[k2]? = some y)
    (hQ : ∀ h', IsZip h' z TI TO (rawInt s.heap.objs.size) → IsPair h' TO x y → SqIt tu h' i1 l1 (k1 + 1) → SqIt tv h' i2 l2 (k2 + 1) → IsPair h' s.heap.objs.size x y → h'.objs.size = s.heap.objs.size + 1 →
      (∀ c o, c ≠ z → c ≠ TO → c ≠ i1 → c ≠ i2 → s.heap.get? c = some o → h'.get? c = some o) → Q (.ref s.heap.objs.size) { s with heap := h' }) :
    wpAny (model prog w) A (Builtin.«zip.__next__» ⟨[.ref z], []⟩) (fun fin s' => ∃ v, fin = .done (.ret v) ∧ Q v s') E s := by
  show wpAny _ _ (field (.ref z) 2 >>= _) _ _ _
  refine wpAny_bind (wpAny_field hz rfl (x := .bool false) rfl ?_)
  show wpAny _ _ (field (.ref z) 3 >>= _) _ _ _
  refine wpAny_bind (wpAny_field hz rfl (x := .ref TI) rfl (wpAny_bind (wpAny_seqItems hTI rfl ?_)))
  show wpAny _ _ (Builtin.SmallTypes.ownedTupleIsFree (.ref z) >>= _) _ _ _
  refine wpAny_bind ?_
  unfold Builtin.SmallTypes.ownedTupleIsFree
  refine wpAny_bind (wpAny_field hz rfl (x := .none) rfl (wpAny_pure ?_))
  simp only [if_true]
  refine wpAny_bind (wpAny_rule (wpAny_bind (wpAny_field hz rfl (x := .ref TO) rfl ?_)))
  refine wpAny_bind (wpAny_setField_rec hz (by simp) fun h₁ hz₁ hs₁ => wpAny_bind ?_)
  replace hz₁ : IsZip h₁ z TI TO .ellipsis := hz₁
  simp only [List.zipIdx_cons, List.zipIdx_nil, List.forIn_cons, List.forIn_nil]
  have k₁ : ∀ c o, c ≠ z → s.heap.get? c = some o → h₁.get? c = some o := hs₁.extBut
  refine wpAny_bind (wpAny_bind (wpAny_onRaise ?_))
  show wpAny _ _ (Builtin.SmallTypes.nextOf (.ref i1) >>= _) _ _ _
  refine wpAny_bind (sq_next (h1.to fun o e => k₁ _ o D.i1z e) (hl1.to fun o e => k₁ _ o D.l1z e) hx fun h₂ h1₂ hs₂ => wpAny_pure ?_)
  have k₂ : ∀ c o, c ≠ z → c ≠ i1 → s.heap.get? c = some o → h₂.get? c = some o := fun c o c1 c2 e => hs₂.extBut _ _ c2 (k₁ c o c1 e)
  have hTO₂ : IsPair h₂ TO a b := k₂ _ _ D.TOz D.TOi1 hTO
  refine wpAny_bind (wpAny_seqItems hTO₂ rfl (wpAny_bind (wpAny_updateSeq_pair hTO₂ fun h₃ hTO₃ hs₃ => wpAny_bind (wpAny_letGo (wpAny_pure ?_)))))
  replace hTO₃ : IsPair h₃ TO x b := hTO₃
  have k₃ : ∀ c o, c ≠ z → c ≠ i1 → c ≠ TO → s.heap.get? c = some o → h₃.get? c = some o := fun c o c1 c2 c3 e => hs₃.extBut _ _ c3 (k₂ c o c1 c2 e)
  refine wpAny_bind (wpAny_bind (wpAny_onRaise ?_))
  show wpAny _ _ (Builtin.SmallTypes.nextOf (.ref i2) >>= _) _ _ _
  refine wpAny_bind (sq_next (h2.to fun o e => k₃ _ o D.i2z D.i12.symm D.TOi2.symm e) (hl2.to fun o e => k₃ _ o D.l2z D.l2i1 D.l2TO e) hy fun h₄ h2₄ hs₄ => wpAny_pure ?_)
  have hTO₄ : IsPair h₄ TO x b := hs₄.extBut _ _ D.TOi2 hTO₃
  refine wpAny_bind (wpAny_seqItems hTO₄ rfl (wpAny_bind (wpAny_updateSeq_pair hTO₄ fun h₅ hTO₅ hs₅ => wpAny_bind (wpAny_letGo (wpAny_pure (wpAny_pure ?_))))))
  replace hTO₅ : IsPair h₅ TO x y := hTO₅
  have k₅ : ∀ c o, c ≠ z → c ≠ TO → c ≠ i1 → c ≠ i2 → s.heap.get? c = some o → h₅.get? c = some o := fun c o c1 c2 c3 c4 e => hs₅.extBut _ _ c2 (hs₄.extBut _ _ c4 (k₃ c o c1 c3 c2 e))
  have hz₅ : IsZip h₅ z TI TO .ellipsis := hs₅.extBut _ _ D.TOz.symm (hs₄.extBut _ _ D.i2z.symm (hs₃.extBut _ _ D.TOz.symm (hs₂.extBut _ _ D.i1z.symm hz₁)))
  have h1₅ : SqIt tu h₅ i1 l1 (k1 + 1) := h1₂.to fun o e => hs₅.extBut _ _ D.TOi1.symm (hs₄.extBut _ _ D.i12 (hs₃.extBut _ _ D.TOi1.symm e))
  have h2₅ : SqIt tv h₅ i2 l2 (k2 + 1) := h2₄.to fun o e => hs₅.extBut _ _ D.TOi2.symm e
  have hsz : h₅.objs.size = s.heap.objs.size := by rw [hs₅.1, hs₄.1, hs₃.1, hs₂.1, hs₁.1]
  have hzlt : z < h₅.objs.size := Heap.lt_size hz₅
  refine wpAny_bind (wpAny_seqItems hTO₅ rfl (wpAny_bind (wpAny_newTuple ?_)))
  show wpAny _ _ (Builtin.SmallTypes.ownedTupleHandOut (.ref z) (.ref h₅.objs.size) >>= _) _ _ _
  refine wpAny_bind ?_
  unfold Builtin.SmallTypes.ownedTupleHandOut
  have hz₆ : IsZip (h₅.push { cls := .type "tuple", data := .seq #[x, y] }) z TI TO .ellipsis := Heap.get?_push_of_some _ hz₅
  refine wpAny_bind (wpAny_setField_rec hz₆ (by simp) fun h₇ hz₇ hs₇ => ?_)
  replace hz₇ : IsZip h₇ z TI TO (rawInt h₅.objs.size) := hz₇
  refine wpAny_setField_rec hz₇ (by simp) fun h₈ hz₈ hs₈ => ?_
  replace hz₈ : IsZip h₈ z TI TO (rawInt h₅.objs.size) := hz₈
  have up : ∀ c o, c ≠ z → h₅.get? c = some o → h₈.get? c = some o := fun c o c1 e => hs₈.extBut _ _ c1 (hs₇.extBut _ _ c1 (Heap.get?_push_of_some _ e))
  have hT₈ : IsPair h₈ h₅.objs.size x y := hs₈.extBut _ _ (Nat.ne_of_gt hzlt) (hs₇.extBut _ _ (Nat.ne_of_gt hzlt) (Heap.get?_push_size _ rfl))
  have hz8 : h₈.objs.size = h₅.objs.size + 1 := by rw [hs₈.1, hs₇.1, Heap.size_push]
  rw [hsz] at hz₈ hT₈ hz8
  refine wpAny_pure ⟨_, rfl, ?_⟩
  show Q (.ref h₅.objs.size) _
  rw [hsz]
  exact hQ h₈ hz₈ (up _ _ D.TOz hTO₅) (h1₅.to fun o e => up _ o D.i1z e) (h2₅.to fun o e => up _ o D.i2z e) hT₈ hz8 fun c o c1 c2 c3 c4 e => up c o c1 (k₅ c o c1 c2 c3 c4 e)
theorem zipS_end {Q : PySem.Fin → Shared → Prop} (hh : A.handled = none) (D : ZipApart z TI TO i1 i2 l1 l2)
    (hz : IsZip s.heap z TI TO .none) (hTI : IsPair s.heap TI (.ref i1) (.ref i2)) (hTO : IsPair s.heap TO a b)
    (h1 : SqIt tu s.heap i1 l1 k1) (h2 : SqIt tv s.heap i2 l2 k2) (hl1 : SqAt tu s.heap l1 xs) (hl2 : SqAt tv s.heap l2 ys) (hend : xs[k1]? = none ∨ ys[k2]? = none)
    (hE : ∀ h' e, (∀ c o, c ≠ z → c ≠ TO → c ≠ i1 → c ≠ i2 → s.heap.get? c = some o → h'.get? c = some o) → (∃ o, h'.get? e = some o ∧ o.cls = .type "StopIteration") → E (.ref e) { s with heap := h' }) :
    wpAny (model prog w) A (Builtin.«zip.__next__» ⟨[.ref z], []⟩) Q E s := by
  show wpAny _ _ (field (.ref z) 2 >>= _) _ _ _
  refine wpAny_bind (wpAny_field hz rfl (x := .bool false) rfl ?_)
  show wpAny _ _ (field (.ref z) 3 >>= _) _ _ _
  refine wpAny_bind (wpAny_field hz rfl (x := .ref TI) rfl (wpAny_bind (wpAny_seqItems hTI rfl ?_)))
  show wpAny _ _ (Builtin.SmallTypes.ownedTupleIsFree (.ref z) >>= _) _ _ _
  refine wpAny_bind ?_
  unfold Builtin.SmallTypes.ownedTupleIsFree
  refine wpAny_bind (wpAny_field hz rfl (x := .none) rfl (wpAny_pure ?_))
  simp only [if_true]
  refine wpAny_bind (wpAny_rule (wpAny_bind (wpAny_field hz rfl (x := .ref TO) rfl ?_)))
  refine wpAny_bind (wpAny_setField_rec hz (by simp) fun h₁ hz₁ hs₁ => wpAny_bind ?_)
  replace hz₁ : IsZip h₁ z TI TO .ellipsis := hz₁
  simp only [List.zipIdx_cons, List.zipIdx_nil, List.forIn_cons, List.forIn_nil]
  have k₁ : ∀ c o, c ≠ z → s.heap.get? c = some o → h₁.get? c = some o := hs₁.extBut
  refine wpAny_bind (wpAny_bind (wpAny_onRaise ?_))
  show wpAny _ _ (Builtin.SmallTypes.nextOf (.ref i1) >>= _) _ _ _
  cases hx : xs[k1]? with
  | none =>
    refine wpAny_bind (sq_end hh (h1.to fun o e => k₁ _ o D.i1z e) (hl1.to fun o e => k₁ _ o D.l1z e) hx fun h₂ e hs₂ he => ?_)
    obtain ⟨oe, hoe, hce⟩ := he
    have hz₂ : IsZip h₂ z TI TO .ellipsis := hs₂ _ _ D.i1z.symm hz₁
    have hez : e ≠ z := fun x => by subst x; rw [hz₂] at hoe; cases hoe; simp at hce
    exact wpAny_setField_rec hz₂ (by simp) fun h₃ _ hs₃ => hE h₃ e (fun c o c1 _ c3 _ x => hs₃.extBut _ _ c1 (hs₂ _ _ c3 (k₁ c o c1 x))) ⟨oe, hs₃.extBut _ _ hez hoe, hce⟩
  | some x =>
    have hy : ys[k2]? = none := by
      rcases hend with h | h
      · rw [hx] at h; cases h
      · exact h
    refine wpAny_bind (sq_next (h1.to fun o e => k₁ _ o D.i1z e) (hl1.to fun o e => k₁ _ o D.l1z e) hx fun h₂ h1₂ hs₂ => wpAny_pure ?_)
    have k₂ : ∀ c o, c ≠ z → c ≠ i1 → s.heap.get? c = some o → h₂.get? c = some o := fun c o c1 c2 e => hs₂.extBut _ _ c2 (k₁ c o c1 e)
    have hTO₂ : IsPair h₂ TO a b := k₂ _ _ D.TOz D.TOi1 hTO
    refine wpAny_bind (wpAny_seqItems hTO₂ rfl (wpAny_bind (wpAny_updateSeq_pair hTO₂ fun h₃ hTO₃ hs₃ => wpAny_bind (wpAny_letGo (wpAny_pure ?_)))))
    have k₃ : ∀ c o, c ≠ z → c ≠ i1 → c ≠ TO → s.heap.get? c = some o → h₃.get? c = some o := fun c o c1 c2 c3 e => hs₃.extBut _ _ c3 (k₂ c o c1 c2 e)
    refine wpAny_bind (wpAny_bind (wpAny_onRaise ?_))
    show wpAny _ _ (Builtin.SmallTypes.nextOf (.ref i2) >>= _) _ _ _
    refine wpAny_bind (sq_end hh (h2.to fun o e => k₃ _ o D.i2z D.i12.symm D.TOi2.symm e) (hl2.to fun o e => k₃ _ o D.l2z D.l2i1 D.l2TO e) hy fun h₄ e hs₄ he => ?_)
    obtain ⟨oe, hoe, hce⟩ := he
    have hz₄ : IsZip h₄ z TI TO .ellipsis := hs₄ _ _ D.i2z.symm (hs₃.extBut _ _ D.TOz.symm (hs₂.extBut _ _ D.i1z.symm hz₁))
    have hez : e ≠ z := fun x => by subst x; rw [hz₄] at hoe; cases hoe; simp at hce
    exact wpAny_setField_rec hz₄ (by simp) fun h₅ _ hs₅ => hE h₅ e (fun c o c1 c2 c3 c4 x => hs₅.extBut _ _ c1 (hs₄ _ _ c4 (k₃ c o c1 c3 c2 x))) ⟨oe, hs₅.extBut _ _ hez hoe, hce⟩
theorem zipS_next {Q : Option Value → Shared → Prop} (D : ZipApart z TI TO i1 i2 l1 l2)
    (hz : IsZip s.heap z TI TO .none) (hTI : IsPair s.heap TI (.ref i1) (.ref i2)) (hTO : IsPair s.heap TO a b)
    (h1 : SqIt tu s.heap i1 l1 k1) (h2 : SqIt tv s.heap i2 l2 k2) (hl1 : SqAt tu s.heap l1 xs) (hl2 : SqAt tv s.heap l2 ys) (hx : xs[k1]? = some x) (hy : ys[k2]? = some y)
    (hQ : ∀ h', IsZip h' z TI TO (rawInt s.heap.objs.size) → IsPair h' TO x y → SqIt tu h' i1 l1 (k1 + 1) → SqIt tv h' i2 l2 (k2 + 1) → IsPair h' s.heap.objs.size x y → h'.objs.size = s.heap.objs.size + 1 →
      (∀ c o, c ≠ z → c ≠ TO → c ≠ i1 → c ≠ i2 → s.heap.get? c = some o → h'.get? c = some o) → Q (some (.ref s.heap.objs.size)) { s with heap := h' }) :
    wpAny (model prog w) A (pyNext (.ref z)) Q E s := by
  have hT : s.TypeIs (.ref z) "zip" := ⟨_, hz, rfl⟩
  unfold pyNext
  exact wpAny_bind (wpAny_attempt (wpAny_callSpecial?_slot (name := Str.ofString "__next__") hT F.slot_zip_next
    (wpAny_call_entry F.slot_zip_next hT F.entry_zip_next
      (zipS_item D hz hTI hTO h1 h2 hl1 hl2 hx hy fun h' a1 a2 a3 a4 a5 a6 a7 => wpAny_pure (hQ h' a1 a2 a3 a4 a5 a6 a7)) (F.args_zip_next_1 _))))
theorem zipS_stop {Q : Option Value → Shared → Prop} (hh : A.handled = none) (D : ZipApart z TI TO i1 i2 l1 l2)
    (hz : IsZip s.heap z TI TO .none) (hTI : IsPair s.heap TI (.ref i1) (.ref i2)) (hTO : IsPair s.heap TO a b)
    (h1 : SqIt tu s.heap i1 l1 k1) (h2 : SqIt tv s.heap i2 l2 k2) (hl1 : SqAt tu s.heap l1 xs) (hl2 : SqAt tv s.heap l2 ys) (hend : xs[k1]? = none ∨ ys[k2]? = none)
    (hQ : ∀ h', (∀ c o, c ≠ z → c ≠ TO → c ≠ i1 → c ≠ i2 → s.heap.get? c = some o → h'.get? c = some o) → Q none { s with heap := h' }) : wpAny (model prog w) A (pyNext (.ref z)) Q E s := by
  have hT : s.TypeIs (.ref z) "zip" := ⟨_, hz, rfl⟩
  unfold pyNext
  refine wpAny_bind (wpAny_attempt (wpAny_callSpecial?_slot (name := Str.ofString "__next__") hT F.slot_zip_next
    (wpAny_call_entry F.slot_zip_next hT F.entry_zip_next (zipS_end hh D hz hTI hTO h1 h2 hl1 hl2 hend fun h' e hk he => ?_) (F.args_zip_next_1 _))))
  obtain ⟨o, ho, hc⟩ := he
  refine wpAny_bind (wpAny_isInstance (T := "StopIteration") (b := true) ⟨o, ho, hc⟩ isSubtype_stop ?_)
  exact wpAny_pure (hQ _ hk)
end
abbrev zipHp (tu tv : Bool) (h : Heap) (l1 l2 : Addr) : Heap :=
  ((((h.push { cls := .type (itTy tu), data := .fields #[.ref l1, .int 0 0] }).push { cls := .type (itTy tv), data := .fields #[.ref l2, .int 0 0] }).push { cls := .type "tuple", data := .seq #[.ref h.objs.size, .ref (h.objs.size + 1)] }).push { cls := .type "tuple", data := .seq #[.none, .none] }).push { cls := .type "zip", data := .fields #[.none, .bool false, .bool false, .ref (h.objs.size + 2), .ref (h.objs.size + 3)] }
theorem zipS_new (tu tv : Bool) (l1 l2 : Addr) (xs ys : Array Value) :
    Meets (Builtin.«zip.__new__» ⟨[.type "zip", .ref l1, .ref l2], []⟩) (fun _ R s => SqAt tu s.heap l1 xs ∧ SqAt tv s.heap l2 ys ∧ R (.ok (.ret (.ref (s.heap.objs.size + 4)))) { s with heap := zipHp tu tv s.heap l1 l2 }) :=
  .of_wp fun prog w A R s h => by
    obtain ⟨hp, g, d, tk, os⟩ := s; obtain ⟨hl1, hl2, h⟩ := h
    have hsub := sub_zip
    have hL2 : SqAt tv (Shared.heap ⟨hp.push { cls := .type (itTy tu), data := .fields #[.ref l1, .int 0 0] }, g, d, tk, os⟩) l2 ys := hl2.to fun o e => Heap.get?_push_of_some _ e
    have hL1 : SqAt tu (Shared.heap ⟨hp, g, d, tk, os⟩) l1 xs := hl1
    wp_walk using sq_iter hL1, sq_iter hL2
    simp only [Heap.size_push]
    exact ⟨_, rfl, h⟩
theorem zipS_call {prog : Program} {w : World} {A : Around} {E : Value → Shared → Prop} {s : Shared} {tu tv : Bool} {l1 l2 : Addr} {xs ys : Array Value} {Q : Value → Shared → Prop} (hl1 : SqAt tu s.heap l1 xs) (hl2 : SqAt tv s.heap l2 ys)
    (h : ∀ h', IsZip h' (s.heap.objs.size + 4) (s.heap.objs.size + 2) (s.heap.objs.size + 3) .none → IsPair h' (s.heap.objs.size + 2) (.ref s.heap.objs.size) (.ref (s.heap.objs.size + 1)) →
      IsPair h' (s.heap.objs.size + 3) .none .none → SqIt tu h' s.heap.objs.size l1 0 → SqIt tv h' (s.heap.objs.size + 1) l2 0 →
      (∀ c o, s.heap.get? c = some o → h'.get? c = some o) → Q (.ref (s.heap.objs.size + 4)) { s with heap := h' }) :
    wpAny (model prog w) A (call (.type "zip") [.ref l1, .ref l2]) Q E s := by
  refine callType_new F.called_zip (by decide) (F.typeCall_zip_2 _ _) (F.newCall_zip_2 _ _) (fun obj => F.args_object_init_3 obj _ _) F.entry_zip_new (zipS_new tu tv l1 l2 xs ys) ⟨hl1, hl2, ?_⟩
  have g5 : ∀ (h : Heap) (o1 o2 o3 o4 o5 : Obj), o5.isFreed = false → (((((h.push o1).push o2).push o3).push o4).push o5).get? (h.objs.size + 4) = some o5 := fun h o1 o2 o3 o4 o5 z => Heap.get?_push_at (by simp only [Heap.size_push]) z
  have z5 := g5 s.heap { cls := .type (itTy tu), data := .fields #[.ref l1, .int 0 0] } { cls := .type (itTy tv), data := .fields #[.ref l2, .int 0 0] } { cls := .type "tuple", data := .seq #[.ref s.heap.objs.size, .ref (s.heap.objs.size + 1)] } { cls := .type "tuple", data := .seq #[.none, .none] }
    { cls := .type "zip", data := .fields #[.none, .bool false, .bool false, .ref (s.heap.objs.size + 2), .ref (s.heap.objs.size + 3)] } rfl
  refine ⟨⟨_, z5, rfl⟩, h _ z5 ?_ ?_ ?_ ?_ fun c o x => Heap.get?_push_of_some _ (Heap.get?_push_of_some _ (Heap.get?_push_of_some _ (Heap.get?_push_of_some _ (Heap.get?_push_of_some _ x))))⟩
  · exact Heap.get?_push_of_some _ (Heap.get?_push_of_some _ (Heap.get?_push_at (by simp only [Heap.size_push]) rfl))
  · exact Heap.get?_push_of_some _ (Heap.get?_push_at (by simp only [Heap.size_push]) rfl)
  · exact (SqIt.new (tu := tu) (h := s.heap) (l := l1)).to fun o e => Heap.get?_push_of_some _ (Heap.get?_push_of_some _ (Heap.get?_push_of_some _ (Heap.get?_push_of_some _ e)))
  · have q := SqIt.new (tu := tv) (h := s.heap.push { cls := .type (itTy tu), data := .fields #[.ref l1, .int 0 0] }) (l := l2)
    rw [Heap.size_push] at q
    exact q.to fun o e => Heap.get?_push_of_some _ (Heap.get?_push_of_some _ (Heap.get?_push_of_some _ e))
def SqX (K : PySem.W.Frag) (tu : Bool) (H : Hp) (a : Addr) (xs : List V) : Prop := if tu = true then SqT K H a xs else SqL K H a xs
theorem sqx_at {X : Cx} {pins : List (Addr × Obj)} {σ : L2.St} {H : Hp} {s : Shared} {tu : Bool} {a : Addr} {xs : List V} (I : Inv X pins σ H s) (h : SqX X.K tu H a xs) : ∃ its : List Value, Vals xs its ∧ SqAt tu s.heap a its.toArray := by
  cases tu with
  | true => obtain ⟨its, r, p, _⟩ := I.tuple (show SqT X.K H a xs from h); exact ⟨its, r, p⟩
  | false => obtain ⟨its, r, p, _⟩ := I.list (show SqL X.K H a xs from h); exact ⟨its, r, p.isList⟩
theorem sqx_inj {X : Cx} {pins : List (Addr × Obj)} {σ : L2.St} {H : Hp} {s : Shared} {tu : Bool} {a : Addr} {xs ys : List V} (I : Inv X pins σ H s) (h : SqX X.K tu H a xs) (h' : SqX X.K tu H a ys) : xs = ys := by
  cases tu with
  | true => exact I.tuple_inj h h'
  | false => exact I.list_inj h h'
def ItzS (K : PySem.W.Frag) (tu tv : Bool) (a b : Addr) : It :=
  ⟨fun i H => ∃ (xs ys : List V) (x y : V), SqX K tu H a xs ∧ SqX K tv H b ys ∧ xs[i]? = some x ∧ ys[i]? = some y,
    fun i H v H' => ∃ T x y, v = .ref T ∧ H T = none ∧ H' = upd H T (.tup [x, y]) ∧ (∀ xs, SqX K tu H a xs → xs[i]? = some x) ∧ ∀ ys, SqX K tv H b ys → ys[i]? = some y,
    fun i H => ∃ xs ys : List V, SqX K tu H a xs ∧ SqX K tv H b ys ∧ (xs.length ≤ i ∨ ys.length ≤ i)⟩
theorem turn_zipS {P : Program} {w : World} {K : PySem.W.Frag} {elts : List Expr} {kk : Nat} {tpos : Pos} {tu tv : Bool} {a b z TI TO i1 i2 : Addr} (D : ZipApart z TI TO i1 i2 a b) :
    Turn P w K (.Tuple elts kk tpos) (ItzS K tu tv a b) [z, TI, TO, i1, i2] z (fun i h => IsZip h z TI TO .none ∧ IsPair h TI (.ref i1) (.ref i2) ∧ (∃ x y, IsPair h TO x y) ∧ SqIt tu h i1 a i ∧ SqIt tv h i2 b i) where
  mem := by simp
  obj := fun i h st c hc => by
    obtain ⟨hz, hTI, ⟨x, y, hTO⟩, h1, h2⟩ := st
    obtain ⟨o1, e1, d1⟩ := h1.obj
    obtain ⟨o2, e2, d2⟩ := h2.obj
    have e' : c = z ∨ c = TI ∨ c = TO ∨ c = i1 ∨ c = i2 := by simpa using hc
    rcases e' with q | q | q | q | q
    · rw [q]; exact ⟨_, hz, fun v q => nomatch q⟩
    · rw [q]; exact ⟨_, hTI, fun v q => nomatch q⟩
    · rw [q]; exact ⟨_, hTO, fun v q => nomatch q⟩
    · rw [q]; exact ⟨o1, e1, fun v q => by rw [d1] at q; cases q⟩
    · rw [q]; exact ⟨o2, e2, fun v q => by rw [d2] at q; cases q⟩
  keep := fun i h h' st k => by
    obtain ⟨hz, hTI, ⟨x, y, hTO⟩, h1, h2⟩ := st
    exact ⟨k z (by simp) _ hz, k TI (by simp) _ hTI, ⟨x, y, k TO (by simp) _ hTO⟩, h1.to fun o q => k i1 (by simp) o q, h2.to fun o q => k i2 (by simp) o q⟩
  item := by
    intro X hP hw hK hc i pins s σ H E I hf st hg
    subst hP hw hK
    obtain ⟨hz, hTI, ⟨x0, y0, hTO⟩, h1, h2⟩ := st
    obtain ⟨xs, ys, x, y, hqx, hqy, hx, hy⟩ := hg
    obtain ⟨its, rv, p⟩ := sqx_at I hqx
    obtain ⟨its2, rv2, p2⟩ := sqx_at I hqy
    obtain ⟨u, hu, ru⟩ := rv.get hx
    obtain ⟨u2, hu2, ru2⟩ := rv2.get hy
    have hzl : z < s.heap.objs.size := Heap.lt_size hz
    refine zipS_next D hz hTI hTO h1 h2 p p2 (x := u) (y := u2) (by simpa using hu) (by simpa using hu2) fun h' z' TO' h1' h2' hT hsz hk => ?_
    refine ⟨_, rfl, wpAny_letOwnedTupleGo_zip (s := { s with heap := h' }) z' fun h'' z'' sb => ?_⟩
    have hT2 : h''.get? s.heap.objs.size = some { cls := .type "tuple", data := .seq #[u, u2] } := (sb.2 _ (Nat.ne_of_gt hzl)).trans hT
    have new : ObjOk X.prog X.w (upd H s.heap.objs.size (.tup [x, y])) h'' s.heap.objs.size (.tup [x, y]) :=
      ⟨by show 2 ≤ sizeLine; decide, [u, u2], .cons ru (.cons ru2 .nil), ⟨_, hT2, rfl, _, rfl⟩⟩
    have I1 : Inv X pins σ (upd H s.heap.objs.size (.tup [x, y])) { s with heap := h'' } :=
      I.turnedNew (t' := s.toks) (ch := [z, TI, TO, i1, i2]) (fun c o hb q => (sb.2 c (fun q' => hb (by simp [q']))).trans (hk c o (fun q' => hb (by simp [q'])) (fun q' => hb (by simp [q'])) (fun q' => hb (by simp [q'])) (fun q' => hb (by simp [q'])) q)) hf (Nat.le_refl _) new
    refine ⟨.ref s.heap.objs.size, _, I1, rfl, ⟨_, x, y, rfl, I.hok.fresh (Nat.le_refl _), rfl, fun l hl => by rw [sqx_inj I hl hqx]; exact hx, fun l hl => by rw [sqx_inj I hl hqy]; exact hy⟩, ⟨z'', ?_, ⟨u, u2, ?_⟩, ?_, ?_⟩, fun c hcm => ?_⟩
    · exact (sb.2 _ D.TIz).trans (hk _ _ D.TIz D.TITO D.TIi1 D.TIi2 hTI)
    · exact (sb.2 _ D.TOz).trans TO'
    · exact h1'.to fun o q => (sb.2 _ D.i1z).trans q
    · exact h2'.to fun o q => (sb.2 _ D.i2z).trans q
    · have hlt : c < s.heap.objs.size := by
        have e' : c = z ∨ c = TI ∨ c = TO ∨ c = i1 ∨ c = i2 := by simpa using hcm
        obtain ⟨o1, e1, _⟩ := h1.obj
        obtain ⟨o2, e2, _⟩ := h2.obj
        rcases e' with q | q | q | q | q
        · rw [q]; exact hzl
        · rw [q]; exact Heap.lt_size hTI
        · rw [q]; exact Heap.lt_size hTO
        · rw [q]; exact Heap.lt_size e1
        · rw [q]; exact Heap.lt_size e2
      rw [upd_ne (Nat.ne_of_lt hlt)]
      exact (hf c hcm).1
  done := by
    intro X hP hw hK hc i pins s σ H E I hf st hg
    subst hP hw hK
    obtain ⟨hz, hTI, ⟨x0, y0, hTO⟩, h1, h2⟩ := st
    obtain ⟨xs, ys, hqx, hqy, hend⟩ := hg
    obtain ⟨its, rv, p⟩ := sqx_at I hqx
    obtain ⟨its2, rv2, p2⟩ := sqx_at I hqy
    have l1 := rv.length
    have l2 := rv2.length
    have he : its.toArray[i]? = none ∨ its2.toArray[i]? = none := by
      rcases hend with q | q
      · exact .inl (by simp; omega)
      · exact .inr (by simp; omega)
    exact zipS_stop (I.ok.hd hc) D hz hTI hTO h1 h2 p p2 he fun h' hk => ⟨rfl, I.turnedL (t' := s.toks) (ch := [z, TI, TO, i1, i2]) (fun c o hb q =>
      hk c o (fun q' => hb (by simp [q'])) (fun q' => hb (by simp [q'])) (fun q' => hb (by simp [q'])) (fun q' => hb (by simp [q'])) q) hf⟩
  self := fun A i s Q E st h => wpAny_pyIter_zip st.1 h
def iZipS (K : PySem.W.Frag) (ta : TA) : TI := fun σ H R => ta σ H fun vs H1 => ∃ tu tv a b xs ys, vs = [.ref a, .ref b] ∧ SqX K tu H1 a xs ∧ SqX K tv H1 b ys ∧ R (ItzS K tu tv a b) H1
theorem pi_zipS {X : Cx} {e e2 : Expr} {ta : TA} {p pos tpos : Pos} {elts : List Expr} {kk : Nat} (hg : Gl X "zip") (hm : X.mg "zip" = none) (ha : PA X [e, e2] ta)
    (hs : starEach [e, e2] X.env = (false, eval e X.env) :: starEach [e2] X.env := by rfl) (hpl : (backTo pos (starEach [e2] X.env)).any (·.1) = false := by rfl) :
    PI X (.Tuple elts kk tpos) (.Call (.Name "zip" p) [e, e2] [] pos) (iZipS X.K ta) := by
  intro pins s σ H R I h
  refine Call_ (ld_blt I hg hm boot_zip5 (PyProof.Rows.callWith_type1 (thn (ha pos pins s σ H _ I h) fun us s1 ⟨vs, H1, I1, r1, q1⟩ => ?_) hs hpl))
  obtain ⟨tu, tv, a, b, xs, ys, ex, hqx, hqy, q⟩ := q1
  subst ex
  cases r1 with
  | cons r rr =>
    cases rr with
    | cons r' rr =>
      cases rr
      cases r
      cases r'
      obtain ⟨its, rv, p1⟩ := sqx_at I1 hqx
      obtain ⟨its2, rv2, p2⟩ := sqx_at I1 hqy
      refine zipS_call p1 p2 fun h' hz hTI hTO h1 h2 hk => wpAny_pyIter_zip hz ?_
      have I2 : Inv X pins σ H1 { s1 with heap := h' } := I1.kept (t' := s1.toks) hk
      refine ⟨s1.heap.objs.size + 4, [s1.heap.objs.size + 4, s1.heap.objs.size + 2, s1.heap.objs.size + 3, s1.heap.objs.size, s1.heap.objs.size + 1], _, _, H1, rfl, I2, turn_zipS (PySem.W.ktu_apart s1.heap.objs.size a b p1.lt p2.lt), ⟨hz, hTI, ⟨_, _, hTO⟩, h1, h2⟩, fun c hcm => ?_, q⟩
      have e' : c = s1.heap.objs.size + 4 ∨ c = s1.heap.objs.size + 2 ∨ c = s1.heap.objs.size + 3 ∨ c = s1.heap.objs.size ∨ c = s1.heap.objs.size + 1 := by simpa using hcm
      have hle : s1.heap.objs.size ≤ c := by
        rcases e' with z | z | z | z | z <;> rw [z] <;> first | exact Nat.le_add_right _ _ | exact Nat.le_refl _
      exact I1.fpOk hle (I1.hok.fresh hle)
end DL
namespace DL
open PySem PySem.Spec PyProof.Rows L2
def keyD : Key → PyData
  | .inl i => .int i
  | .inr s => .str s
structure DPc (X : Cx) (pos : Pos) (keys : List (Option Expr)) (values : List Expr) (kvs : List (Key × PyData)) : Prop where
  pps : PPs X pos keys values (kvs.map fun kv => (up X.K (dC (keyD kv.1)), up X.K (dC kv.2)))
  all : keys.all (·.isSome) = true
  len : keys.length = values.length
  len2 : keys.length = kvs.length
section
variable {X : Cx} {pos : Pos}
def lookD : List (Key × PyData) → Key → Option PyData
  | [], _ => none
  | (k, x) :: r, k' => if k = k' then some x else lookD r k'
def keyOf : Dv → Option Key
  | .d (.str s) => some (.inr s)
  | .d (.int i) => some (.inl i)
  | _ => none
theorem Ok.frz {K : PySem.W.Frag} {H I : Hp} {m : M} {p : Addr} {q : MO} {o : HO} (ok : Ok K H I (setM m p q)) (hm : m p = none) : Ok K (upd H p o) (upd I p o) m := by
  have hI : I p = none := by
    cases e : I p with
    | none => rfl
    | some u => have := ok.dj p u e; rw [setM_same] at this; cases this
  refine ⟨fun a u e => ?_, fun a u e => ?_, fun a z e => ?_⟩
  · by_cases h : a = p
    · subst h; rw [upd_same] at e ⊢; exact e
    · rw [upd_ne h] at e ⊢; exact ok.im a u e
  · by_cases h : a = p
    · subst h; exact hm
    · rw [upd_ne h] at e
      have := ok.dj a u e
      rwa [setM_ne h] at this
  · have h : a ≠ p := fun z => by subst z; rw [hm] at e; cases e
    obtain ⟨u, h1, h2⟩ := ok.mu a z (by rw [setM_ne h]; exact e)
    exact ⟨u, by rw [upd_ne h]; exact h1, h2.same (same_new (H := H) hI)⟩
def dPick (kvs : List (Key × PyData)) (ti : TD) : TD := fun δ m Q => ti δ m fun y m1 => ∃ k x, keyOf y = some k ∧ lookD kvs k = some x ∧ Q (.d x) m1
end
def sqD : Dv → Option (Bool × List PyData)
  | .d (.tuple xs) => some (true, xs)
  | .d (.list xs) => some (false, xs)
  | _ => none
theorem sqD_is {K : PySem.W.Frag} {I : Hp} {v : V} {y : Dv} {tu : Bool} {xs : List PyData} (h : Is K I v y) (e : sqD y = some (tu, xs)) : ∃ a vs, v = .ref a ∧ SqX K tu I a vs ∧ DpAll K I vs xs := by
  unfold sqD at e
  split at e
  · cases e
    cases (show Dp K I v (.tuple xs) from h) with
    | tup sq al => exact ⟨_, _, rfl, sq, al⟩
  · cases e
    cases (show Dp K I v (.list xs) from h) with
    | lst sq al => exact ⟨_, _, rfl, sq, al⟩
  · cases e
theorem SqX.same {K : PySem.W.Frag} {H H' : Hp} {tu : Bool} {a : Addr} {xs : List V} (e : Same H H') (h : SqX K tu H a xs) : SqX K tu H' a xs := by
  cases tu with
  | true => exact SqT.same e h
  | false => exact Same.seq e h
def zipD (xs ys : List PyData) : List Dv := (xs.zip ys).map fun p => .d (.tuple [p.1, p.2])
def dZip (ta : TAd) : TId := fun δ m R => ta δ m fun ds m1 => ∃ a b tu tv xs ys, ds = [a, b] ∧ sqD a = some (tu, xs) ∧ sqD b = some (tv, ys) ∧ R (zipD xs ys) (fun _ => True) m1
section
variable {X : Cx} {pos : Pos}
theorem di_zip {e e2 : Expr} {ta : TAd} {p tpos : Pos} {elts : List Expr} {kk : Nat} (hg : Gl X "zip") (hm : X.mg "zip" = none) (ha : DA X [e, e2] ta)
    (hs : starEach [e, e2] X.env = (false, eval e X.env) :: starEach [e2] X.env := by rfl) (hpl : (backTo pos (starEach [e2] X.env)).any (·.1) = false := by rfl) :
    DI X (.Tuple elts kk tpos) (.Call (.Name "zip" p) [e, e2] [] pos) (dZip ta) := by
  refine ⟨fun δ m R R' h q => ha.mono δ m _ _ (fun ds m1 ⟨a, b, tu, tv, xs, ys, e1, e2, e3, z⟩ => ⟨a, b, tu, tv, xs, ys, e1, e2, e3, h _ _ _ z⟩) q, PI.imp (pi_zipS hg hm ha.pa hs hpl) fun σ H R ⟨I, δ, m, ok, rl, q⟩ => ?_⟩
  refine ⟨I, δ, m, ok, rl, ha.mono δ m _ _ (fun ds m1 ⟨y1, y2, tu, tv, xs, ys, e1, e2, e3, z⟩ vs H1 I1 s1 o1 i1 => ?_) q⟩
  subst e1
  obtain ⟨v1, v2, rfl, h1, h2⟩ := isAll2 i1
  obtain ⟨a, vs, rfl, qa, aa⟩ := sqD_is h1 e2
  obtain ⟨b, ws, rfl, qb, ab⟩ := sqD_is h2 e3
  have la := dpAll_len aa
  have lb := dpAll_len ab
  refine ⟨tu, tv, a, b, vs, ws, rfl, qa.same o1.im, qb.same o1.im, z _ H1 I1 s1 o1 ⟨fun i H I' m s' o' _ hi => ?_, fun i H I' m x H' s' o' _ y => ?_, fun H I' m s' o' _ => ?_⟩⟩
  · simp only [zipD, List.length_map, List.length_zip] at hi
    exact ⟨vs, ws, vs[i]'(by omega), ws[i]'(by omega), qa.same (s'.trans o'.im), qb.same (s'.trans o'.im), by simp, by simp⟩
  · obtain ⟨T, x1, x2, rfl, hT, rfl, y1, y2⟩ := y
    have hx := y1 vs (qa.same (s'.trans o'.im))
    have hy := y2 ws (qb.same (s'.trans o'.im))
    have bx : i < vs.length := (List.getElem?_eq_some_iff.mp hx).1
    have by' : i < ws.length := (List.getElem?_eq_some_iff.mp hy).1
    have bx2 : i < (xs.map Dv.d).length := by rw [List.length_map, ← la]; exact bx
    have by2 : i < (ys.map Dv.d).length := by rw [List.length_map, ← lb]; exact by'
    obtain ⟨v', g1, g2⟩ := paired_get (isAll_of aa) (List.getElem?_eq_getElem bx2)
    obtain ⟨w', k1, k2⟩ := paired_get (isAll_of ab) (List.getElem?_eq_getElem by2)
    rw [hx] at g1; cases g1
    rw [hy] at k1; cases k1
    have fI := o'.free hT
    have sn : Same I' (upd I' T (.tup [x1, x2])) := same_new (H := H) fI
    have jx : i < xs.length := by simpa using bx2
    have jy : i < ys.length := by simpa using by2
    refine ⟨upd I' T (.tup [x1, x2]), .d (.tuple [xs[i], ys[i]]), sn, o'.new hT, fun _ => ⟨?_, ?_⟩⟩
    · rw [zipD, List.getElem?_map, List.getElem?_eq_getElem (by rw [List.length_zip]; omega)]
      simp
    · have g3 : Is X.K I1 x1 (.d xs[i]) := by simpa using g2
      have k3 : Is X.K I1 x2 (.d ys[i]) := by simpa using k2
      exact Dp.tup (SqT.of upd_same) (.cons (Dp.same (s'.trans sn) g3) (.cons (Dp.same (s'.trans sn) k3) .nil))
  · refine ⟨vs, ws, qa.same (s'.trans o'.im), qb.same (s'.trans o'.im), ?_⟩
    simp only [zipD, List.length_map, List.length_zip]
    omega
end
end DL
namespace DL
open PySem PySem.Spec PyProof.Rows L2
section
variable {prog : Program} {w : World} {A : Around} {E : Value → Shared → Prop} {s : Shared}
end
section
variable {X : Cx} {pos : Pos} {a b : Expr} {ta : TAd}
def dTupRng (ta : TAd) : TD := fun δ m Q => ta δ m fun ds m1 => ∃ i j : Int, ds = [.d (.int i), .d (.int j)] ∧ (-(2 ^ 63) + 4 ≤ i ∧ i < 2 ^ 63 - 4 ∧ -(2 ^ 63) + 4 ≤ j ∧ j < 2 ^ 63 - 4 ∧ j - i < 2 ^ 24) ∧ Q (.d (.tuple ((List.range (j - i).toNat).map fun k => .int (i + ((k : Nat) : Int))))) m1
end
end DL
namespace DL
open PySem PySem.Spec PyProof.Rows L2
def SubM (m m' : M) : Prop := ∀ a q, m a = some q → m' a = some q
theorem Ok.sub {K : PySem.W.Frag} {H I : Hp} {m m' : M} (ok : Ok K H I m') (s : SubM m m') : Ok K H I m := by
  refine ⟨ok.im, fun a o e => ?_, fun a q e => ok.mu a q (s a q e)⟩
  have := ok.dj a o e
  cases z : m a with
  | none => rfl
  | some q => rw [s a q z] at this; cases this
def dropQ (Q : QD) : QD := fun d m' => ∃ m, SubM m m' ∧ Q d m
section
variable {P : Program} {w : World} {K : PySem.W.Frag} {mg : Str → Option Value} {base : Heap}
theorem Fun.okDS {x qual : Str} {st : Stmt} {f : Addr} {fd : FuncData} {N ps : List Str} {k : Nat} {F : FD} (G : Fun K x qual st f fd) (S : FnScope N ps (defScope st)) (hF : MoA F) (len : ∀ ds m Q, F ds m Q → ds.length = ps.length)
    (hbody : ∀ (cdv : Value) (A : Around) (outer : List Env) (s : Shared) (H : Hp) (E : XK), Room k (A.deeper (envOfC qual (defScope st) s.heap.objs.size f cdv)) →
      ∃ t, DSs (cxOf CX0 P w K mg base N qual (defScope st) f cdv A outer s H E).nox (defBody st) t ∧ ∀ ds m Q, F ds m Q → t { nx := fun _ m' => dropQ Q (.d .none) m', rt := dropQ Q } (startD N ds) m) : FnOk P w K mg base CX0 (k + 1) f fd ps (spD K F) := by
  have h := Fun.okD (P := P) (w := w) (mg := mg) (base := base) (F := fun ds m Q => ∃ Q', F ds m Q' ∧ ∀ d m', dropQ Q' d m' → Q d m') G S (fun xs m Q Q' h ⟨Q0, a, b⟩ => ⟨Q0, a, fun d m' z => h _ _ (b d m' z)⟩) (fun ds m Q ⟨Q0, a, _⟩ => len ds m Q0 a) (fun cdv A outer s H E hr => by
    obtain ⟨t, ht, hq⟩ := hbody cdv A outer s H E hr
    refine ⟨t, ht, fun ds m Q ⟨Q0, a, b⟩ => ?_⟩
    exact ht.mono { nx := fun _ m' => dropQ Q0 (.d .none) m', rt := dropQ Q0 } _ _ _ ⟨fun _ m' z => b _ _ z, fun _ _ z => b _ _ z, fun _ _ z => z, fun _ _ z => z⟩ (hq ds m Q0 a))
  refine h.imp fun vs H Q E ⟨I, ds, m, ok, is, q⟩ => ⟨I, ds, m, ok, is, _, q, fun d m' ⟨m0, sb, z⟩ v H' I' s' o' i' => z v H' I' s' (o'.sub sb) i'⟩
end
section
variable {X : Cx} {e : Expr} {te : TD} {pos p2 : Pos} {lo hi : Option Expr}
def dSlT (te : TD) (tl th : TOd) : TD := fun δ m Q => te δ m fun x m1 => tl δ m1 fun l m2 => th δ m2 fun u m3 => ∃ xs, x = .d (.tuple xs) ∧ ¬ (HT.sIx xs.length 0 l = 0 ∧ HT.sIx xs.length xs.length u = xs.length) ∧ Q (.d (.tuple (cutD xs l u))) m3
theorem de_sliceT {tl th : TOd} (he : DE X e te) (hl : DO X lo tl) (hu : DO X hi th) : DE X (.Subscript e (.Slice lo hi none p2) pos) (dSlT te tl th) := by
  refine de_of (pe_slice sl_tup he.pe hl.po hu.po) (fun δ m Q Q' hq q => he.mono δ m _ _ (fun x m1 q1 => hl.mono δ m1 _ _ (fun l m2 q2 => hu.mono δ m2 _ _ (fun u m3 ⟨xs, e, a, z⟩ => ⟨xs, e, a, hq _ _ z⟩) q2) q1) q) fun σ H I δ m Q ok rl q => ?_
  refine ⟨I, δ, m, ok, rl, he.mono δ m _ _ (fun x m1 q1 v1 H1 I1 s1 o1 i1 => ?_) q⟩
  refine ⟨I1, δ, m1, o1, rl.same s1, hl.mono δ m1 _ _ (fun l m2 q2 H2 I2 s2 o2 => ?_) q1⟩
  refine ⟨I2, δ, m2, o2, (rl.same s1).same s2, hu.mono δ m2 _ _ (fun u m3 ⟨xs, ex, hne, q3⟩ H3 I3 s3 o3 => ?_) q2⟩
  subst ex
  cases (show Dp X.K I1 v1 (.tuple _) from i1) with
  | tup sq al =>
    have al3 := DpAll.same (s2.trans s3) al
    have le := dpAll_len al
    refine ⟨_, _, rfl, SqT.same ((s2.trans s3).trans o3.im) sq, by rw [le]; exact hne, fun p hp => qd_newT o3 ((s1.trans s2).trans s3) hp ?_ q3⟩
    unfold cutV cutD
    rw [le]
    exact dpAll_take _ (dpAll_drop _ al3)
end
end DL
namespace DL
open PySem PySem.Spec PyProof.Rows L2
def isT (t T : String) : Bool := t == T || (t == "bool" && T == "int")
theorem kit_ty (K : PySem.W.Frag) (d : PyData) (T : String) (hT : T = "int" ∨ T = "bool" ∨ T = "str" ∨ T = "tuple" ∨ T = "list") : PySem.W.kitOne K (.type (tyD d)) (.type T) = some (isT (tyD d) T) := by
  rcases hT with rfl | rfl | rfl | rfl | rfl <;> cases d <;> first | rfl | decide +kernel
section
variable {X : Cx} {e : Expr} {te : TD} {pos p p2 : Pos}
theorem isi_at {pins : List (Addr × Obj)} {σ : L2.St} {H : Hp} {s : Shared} {A : Around} {E : Value → Shared → Prop} {Q : Value → Shared → Prop} {c : Value} {b : Bool} {v : V} {u : Value} {d : PyData} (I : Inv X pins σ H s) (rx : RelV v u) (h : Dp X.K H v d)
    (k : PySem.W.kitOne X.K (.type (tyD d)) c = some b) (q : ∀ tk, Q (.bool b) { s with toks := tk }) : wpAny (model X.prog X.w) A (call (.builtin "isinstance") [u, c]) Q E s := by
  cases h with
  | non => cases (show u = Value.none from rx); exact PySem.W.kia_one PySem.W.kitx_none I.kIn True.intro k (fun z => nomatch z) q
  | bl y => cases (show u = Value.bool y from rx); exact PySem.W.kia_one PySem.W.kitx_bool I.kIn True.intro k (fun z => nomatch z) q
  | int i => obtain ⟨t, z⟩ := (show ∃ t, u = Value.int i t from rx); cases z; exact PySem.W.kia_one PySem.W.kitx_int I.kIn True.intro k (fun z => nomatch z) q
  | str y => obtain ⟨t, z⟩ := (show ∃ t, u = Value.str y t from rx); cases z; exact PySem.W.kia_one PySem.W.kitx_str I.kIn True.intro k (fun z => nomatch z) q
  | @lst a xs ds sq al =>
    cases (show u = Value.ref a from rx)
    obtain ⟨its, _, p, _⟩ := I.list sq
    obtain ⟨o, h1, h2, _⟩ := p.isList
    exact PySem.W.kia_one PySem.W.kitx_list I.kIn ⟨o, h1, h2⟩ k (fun z => nomatch z) q
  | @tup a xs ds sq al =>
    cases (show u = Value.ref a from rx)
    obtain ⟨its, _, p, _⟩ := I.tuple sq
    obtain ⟨o, h1, h2, _⟩ := p
    exact PySem.W.kia_one PySem.W.kitx_tuple I.kIn ⟨o, h1, h2⟩ k (fun z => nomatch z) q
def rIsi (K : PySem.W.Frag) : List V → Hp → VK → Prop := fun vs H Q => ∃ v T d, vs = [v, .ty T] ∧ Dp K H v d ∧ (T = "int" ∨ T = "bool" ∨ T = "str" ∨ T = "tuple" ∨ T = "list") ∧ Q (.bl (isT (tyD d) T)) H
theorem cr_isi : CallR X (.builtin "isinstance") (rIsi X.K) := by
  intro pins s σ H vs us Q I r h
  obtain ⟨v, T, d, rfl, dp, hT, q⟩ := h
  cases r with
  | cons r1 rr =>
    cases rr with
    | cons r2 rr =>
      cases rr
      cases (show _ = Value.type T from r2)
      exact isi_at I r1 dp (kit_ty X.K d T hT) fun tk => ⟨.bl _, H, I.tok tk, rfl, q⟩
theorem boot_isi : bootBuiltins "isinstance" = some (.builtin "isinstance") := by decide +kernel
theorem de_isi {x : Str} {T : String} (hg : Gl X "isinstance") (hm : X.mg "isinstance" = none) (hg2 : Gl X x) (hm2 : X.mg x = none) (hv : bootBuiltins x = some (.type T)) (hT : T = "int" ∨ T = "bool" ∨ T = "str" ∨ T = "tuple" ∨ T = "list") (he : DE X e te)
    (hs : starEach [e, .Name x p2] X.env = (false, eval e X.env) :: starEach [.Name x p2] X.env := by rfl) (hs2 : starEach [.Name x p2] X.env = (false, eval (.Name x p2) X.env) :: starEach [] X.env := by rfl) (hpl : (backTo pos (starEach [.Name x p2] X.env)).any (·.1) = false := by rfl)
    (hn : x ≠ "__name__" := by decide) (hdb : (x == ("__debug__" : Str)) = false := by decide) : DE X (.Call (.Name "isinstance" p) [e, .Name x p2] [] pos) (dIsi (fun t => isT t T) te) := by
  refine de_of (pe_callB cr_isi hg hm boot_isi (pa_cons he.pe (pa_cons (pe_bltn (v := .ty T) hg2 hm2 hv rfl hn hdb) pa_nil hs2) hs) (he := hs) (hpl := hpl)) (mo_dIsi he.mono) fun σ H I δ m Q ok rl q => ?_
  refine ⟨I, δ, m, ok, rl, he.mono δ m _ _ (fun x m1 q1 v1 H1 I1 s1 o1 i1 => ?_) q⟩
  cases x with
  | r a => exact q1.elim
  | d d => exact ⟨v1, T, d, rfl, Dp.up o1 i1, hT, qd_same o1 s1 (isB _) q1⟩
end
end DL
namespace DL
open PySem PySem.Spec PyProof.Rows L2
section
variable {X : Cx} {pos : Pos}
end
def F_never : FD := fun _ _ _ => False
theorem mo_never : MoA F_never := fun _ _ _ _ _ z => z
theorem ok_never {P : Program} {w : World} {K : PySem.W.Frag} {mg : Str → Option Value} {base : Heap} {k : Nat} {f : Addr} {fd : FuncData} {ps : List Str} : FnOk P w K mg base CX0 k f fd ps (spD K F_never) :=
  ⟨fun _ _ _ _ ⟨_, _, _, _, _, z⟩ => z.elim, fun _ _ _ _ _ _ _ _ _ _ _ _ _ ⟨_, _, _, _, _, z⟩ => z.elim⟩
end DL
namespace DL
open PySem PySem.Spec PyProof.Rows L2
section
variable {X : Cx} {e : Expr} {te : TD} {pos p2 : Pos} {lo hi : Option Expr}
def dSlM (te : TD) (tl th : TOd) : TD := fun δ m Q => te δ m fun x m1 => tl δ m1 fun l m2 => th δ m2 fun u m3 => ∃ a xs, x = .r a ∧ m3 a = some (.lst (xs.map .d)) ∧ Q (.d (.list (cutD xs l u))) m3
end
end DL
namespace DL
open PySem PySem.W PySem.Spec PyProof.Rows L2 Att
def bitsOf : List Int → Nat
  | [] => 0
  | n :: r => Builtin.Int.intBits n + 1 + bitsOf r
theorem weight_ints : ∀ ns : List Int, WData.weightAll (ns.map .int) = bitsOf ns
  | [] => rfl
  | n :: r => by
    show WData.weight (.int n) + 1 + WData.weightAll (r.map .int) = _
    rw [weight_ints r]; rfl
theorem bits_of_lay {ns : List Int} (h : WData.layableAll [WData.list (ns.map .int)] = true) : bitsOf ns ≤ 2 ^ 20 := by
  have h1 := List.all_eq_true.mp h _ (List.mem_singleton.mpr rfl)
  unfold WData.layable at h1
  have h2 := (Bool.and_eq_true_iff.mp h1).2
  have h3 : WData.weight (.list (ns.map .int)) ≤ 2 ^ 20 := of_decide_eq_true h2
  have h4 : WData.weight (.list (ns.map .int)) = bitsOf ns := weight_ints ns
  omega
theorem walk_ofB {l : PySem.W.OpenLaw} {n k : Nat} {q : Program} {loose : List Str} {XP : (Str → Option Value) → Heap → Prop} {YP : World → Heap → Prop} {d : DefRec} {K : Params → PySem.W.Frag} {CX : CXT} {sp : PySem.W.Frag → Sp} {x : Str}
    (hn : l.most = some n) (hn2 : n ≤ sizeLine) (hdf : d.params.defaults = []) (hr : Room k callerA)
    (hY : ∀ (w : World) (h : Heap), YP w h → (K w.params).In h)
    (F : ∀ (w : World) (mg : Str → Option Value) (fa : Addr) (h : Heap), (K w.params).In h → h.Ns mainGlobals mg → mg d.name = some (.ref fa) →
      ∃ fd : FuncData, (∀ (s : Shared) (u : Value), BindsTo s fd ⟨[u], []⟩ [(x, u)]) ∧
        ∀ base : Heap, (K w.params).In base → base.Ns mainGlobals mg → FnOk l.prog w (K w.params) mg base CX k fa fd [x] (sp (K w.params)))
    (hsp : ∀ (K : PySem.W.Frag) (H : Hp) (a : Addr) (ns : List Int), ns.length ≤ n → bitsOf ns ≤ 2 ^ 20 → SqL K H a (ns.map V.int) → sp K [.ref a] H (fun v _ => v = .bl true) fun _ _ _ => False)
    (hCX : ∀ (H : Hp) (s : Shared) (e : Value) (s' : Shared), CX [] H s (fun _ _ _ => False) e s' → False) :
    PySem.W.WalkO q loose XP YP l.row.toRowW d [] (fun f vs => PySem.call f vs) := by
  intro w s₀ s₁ mg mb G Y fa o pm cd doc dV kV ho hd hcd hD hmg hg args vals as hpre hlay hrd hwl hlo
  obtain rfl : dV = .none := Dflts.none hD hdf
  obtain rfl : kV = .none := Dflts.noKw hD
  obtain ⟨a, vs, ns, rfl, rfl, hobj, hints, hlen⟩ := script_of hn hpre hwl
  have hbits := bits_of_lay hlay
  have KX := hY w _ Y
  obtain ⟨fd, hb, hF⟩ := F w mg fa _ KX G.T.g hmg
  refine enter_call (codeAny_mono (law_call KX G.T.g G.T.b G.T.builtins G.T.nolimit hg hobj hints (Nat.le_trans hlen hn2) hr hF hb (fun H hO hS => hsp (K w.params) H a ns hlen hbits hS) fun H e s' => hCX H s₁ e s') fun r s' hq => ?_)
  obtain ⟨rfl, h2, h3, h4⟩ := hq
  exact ⟨.inl ⟨.bool true, .bool true, [], rfl, fun _ => rfl, .bool true, post_true l _, fun _ => ⟨List.Pairwise.nil, fun _ hm => (nomatch hm)⟩⟩, h2, h3, h4⟩
end DL
namespace Sp
def ab (i : Int) : Int := if i < 0 then -i else i
def mx (i j : Int) : Int := if j > i then j else i
def ring (x y : Int) : Int := mx (ab x) (ab y)
def po (x y : Int) : Int :=
  if y = -(ring x y) then 4 * (ring x y) * (ring x y) + 3 * (ring x y) + x
  else if x = -(ring x y) then 4 * (ring x y) * (ring x y) + (ring x y) - y
  else if y = ring x y then 4 * (ring x y) * (ring x y) - (ring x y) - x
  else 4 * (ring x y) * (ring x y) - 3 * (ring x y) + y
theorem ring_cases (x y : Int) : 0 ≤ ring x y ∧ x ≤ ring x y ∧ -x ≤ ring x y ∧ y ≤ ring x y ∧ -y ≤ ring x y ∧ (x = ring x y ∨ -x = ring x y ∨ y = ring x y ∨ -y = ring x y) := by
  unfold ring mx ab
  repeat' split
  all_goals omega
theorem po_sides (x y : Int) : ∃ k, ring x y = k ∧ 0 ≤ k ∧
    ((y = -k ∧ -k ≤ x ∧ x ≤ k ∧ po x y = 4 * k * k + 3 * k + x) ∨ (x = -k ∧ -k < y ∧ y ≤ k ∧ po x y = 4 * k * k + k - y) ∨ (y = k ∧ -k < x ∧ x ≤ k ∧ po x y = 4 * k * k - k - x) ∨ (x = k ∧ -k < y ∧ y < k ∧ po x y = 4 * k * k - 3 * k + y)) := by
  obtain ⟨h0, h1, h2, h3, h4, h5⟩ := ring_cases x y
  refine ⟨ring x y, rfl, h0, ?_⟩
  unfold po
  generalize ring x y = k at *
  by_cases a : y = -k
  · left; rw [if_pos a]; exact ⟨a, by omega, by omega, rfl⟩
  · rw [if_neg a]
    by_cases b : x = -k
    · right; left; rw [if_pos b]; exact ⟨b, by omega, by omega, rfl⟩
    · rw [if_neg b]
      by_cases c : y = k
      · right; right; left; rw [if_pos c]; exact ⟨c, by omega, by omega, rfl⟩
      · right; right; right; rw [if_neg c]; exact ⟨by omega, by omega, by omega, rfl⟩
theorem po_bounds (x y : Int) : 0 ≤ po x y ∧ 4 * ring x y * ring x y - 4 * ring x y ≤ po x y ∧ po x y ≤ 4 * ring x y * ring x y + 4 * ring x y ∧ (0 < ring x y → 4 * ring x y * ring x y - 4 * ring x y < po x y) := by
  obtain ⟨k, e, h0, h⟩ := po_sides x y
  rw [e]
  have hk : 0 ≤ 4 * k * k - 4 * k := by
    rcases Int.lt_or_le 0 k with hp | hp
    · have : 4 * k * 1 ≤ 4 * k * k := Int.mul_le_mul_of_nonneg_left (by omega) (by omega)
      omega
    · have : k = 0 := by omega
      subst this; decide
  rcases h with ⟨_, _, _, h⟩ | ⟨_, _, _, h⟩ | ⟨_, _, _, h⟩ | ⟨_, _, _, h⟩ <;> rw [h] <;> refine ⟨by omega, by omega, by omega, fun _ => by omega⟩
theorem ring_inj {x y x' y' : Int} (e : po x y = po x' y') : ring x y = ring x' y' := by
  have key : ∀ j k : Int, 0 ≤ j → 0 ≤ k → ∀ n, n ≤ 4 * j * j + 4 * j → (0 < k → 4 * k * k - 4 * k < n) → k ≤ j := by
    intro j k hj hk n h1 h2
    rcases Int.lt_or_le j k with h | h
    · exfalso
      have h2 := h2 (by omega)
      have hm : 4 * (j + 1) * j ≤ 4 * k * (k - 1) := by
        have a1 : 4 * (j + 1) * j ≤ 4 * k * j := Int.mul_le_mul_of_nonneg_right (by omega) hj
        have a2 : 4 * k * j ≤ 4 * k * (k - 1) := Int.mul_le_mul_of_nonneg_left (by omega) (by omega)
        omega
      have e1 : 4 * (j + 1) * j = 4 * j * j + 4 * j := by rw [Int.mul_add, Int.add_mul]; simp
      have e2 : 4 * k * (k - 1) = 4 * k * k - 4 * k := by rw [Int.mul_sub]; simp
      omega
    · exact h
  obtain ⟨_, _, b1, b2⟩ := po_bounds x y
  obtain ⟨_, _, c1, c2⟩ := po_bounds x' y'
  have r1 := (ring_cases x y).1
  have r2 := (ring_cases x' y').1
  exact Int.le_antisymm (key _ _ r2 r1 _ (by rw [e]; exact c1) b2) (key _ _ r1 r2 _ (by rw [← e]; exact b1) c2)
theorem po_inj {x y x' y' : Int} (e : po x y = po x' y') : x = x' ∧ y = y' := by
  have er := ring_inj e
  obtain ⟨k, e1, h0, h⟩ := po_sides x y
  obtain ⟨k', e2, h0', h'⟩ := po_sides x' y'
  have : k' = k := by rw [← e1, ← e2, er]
  subst this
  rcases h with ⟨_, _, _, h⟩ | ⟨_, _, _, h⟩ | ⟨_, _, _, h⟩ | ⟨_, _, _, h⟩ <;> rcases h' with ⟨_, _, _, h'⟩ | ⟨_, _, _, h'⟩ | ⟨_, _, _, h'⟩ | ⟨_, _, _, h'⟩ <;> rw [h, h'] at e <;> omega
theorem po_of {x y k : Int} (hk : 0 ≤ k) (h : (y = -k ∧ -k ≤ x ∧ x ≤ k) ∨ (x = -k ∧ -k < y ∧ y ≤ k) ∨ (y = k ∧ -k < x ∧ x ≤ k) ∨ (x = k ∧ -k < y ∧ y < k)) :
    ring x y = k ∧ po x y = (if y = -k then 4 * k * k + 3 * k + x else if x = -k then 4 * k * k + k - y else if y = k then 4 * k * k - k - x else 4 * k * k - 3 * k + y) := by
  have er : ring x y = k := by
    obtain ⟨h0, h1, h2, h3, h4, h5⟩ := ring_cases x y
    omega
  refine ⟨er, ?_⟩
  unfold po
  rw [er]
end Sp
namespace Sp
def IsRoot (n r : Int) : Prop := 0 ≤ r ∧ r * r ≤ n ∧ n < (r + 1) * (r + 1)
def ppx (n k : Int) : Int := if n - 4 * k * k > 2 * k then n - 4 * k * k - 3 * k else if n - 4 * k * k > 0 then -k else if n - 4 * k * k > -2 * k then -k - (n - 4 * k * k) else k
def ppy (n k : Int) : Int := if n - 4 * k * k > 2 * k then -k else if n - 4 * k * k > 0 then k - (n - 4 * k * k) else if n - 4 * k * k > -2 * k then k else n - 4 * k * k + 3 * k
theorem ring_of_root {n r : Int} (h : IsRoot n r) : 0 ≤ (r + 1) / 2 ∧ -4 * ((r + 1) / 2) ≤ n - 4 * ((r + 1) / 2) * ((r + 1) / 2) ∧ (0 < (r + 1) / 2 → -4 * ((r + 1) / 2) < n - 4 * ((r + 1) / 2) * ((r + 1) / 2)) ∧ n - 4 * ((r + 1) / 2) * ((r + 1) / 2) ≤ 4 * ((r + 1) / 2) := by
  obtain ⟨h0, h1, h2⟩ := h
  have e2 : (r + 1) * (r + 1) = r * r + 2 * r + 1 := by rw [Int.mul_add, Int.add_mul]; omega
  rw [e2] at h2
  rcases Int.emod_two_eq r with e | e
  · obtain ⟨k, rfl⟩ : ∃ k, r = 2 * k := ⟨r / 2, by omega⟩
    have ek : (2 * k + 1) / 2 = k := by omega
    rw [ek]
    have e4 : 2 * k * (2 * k) = 4 * k * k := by rw [Int.mul_assoc, Int.mul_left_comm k 2 k, ← Int.mul_assoc, ← Int.mul_assoc]; rfl
    rw [e4] at h1 h2
    refine ⟨by omega, by omega, fun _ => by omega, by omega⟩
  · obtain ⟨k, rfl⟩ : ∃ k, r = 2 * k - 1 := ⟨(r + 1) / 2, by omega⟩
    have ek : (2 * k - 1 + 1) / 2 = k := by omega
    rw [ek]
    have e4 : (2 * k - 1) * (2 * k - 1) = 4 * k * k - 4 * k + 1 := by
      rw [Int.mul_sub, Int.sub_mul, Int.mul_assoc, Int.mul_left_comm k 2 k, ← Int.mul_assoc, ← Int.mul_assoc]; simp; omega
    rw [e4] at h1 h2
    refine ⟨by omega, by omega, fun _ => by omega, by omega⟩
theorem pp_ok {n r : Int} (h : IsRoot n r) : po (ppx n ((r + 1) / 2)) (ppy n ((r + 1) / 2)) = n := by
  obtain ⟨h0, h1, h2, h3⟩ := ring_of_root h
  generalize (r + 1) / 2 = k at *
  unfold ppx ppy
  generalize hp : n - 4 * k * k = p at *
  have hn : n = 4 * k * k + p := by omega
  by_cases a : p > 2 * k
  · rw [if_pos a, if_pos a]
    obtain ⟨_, e⟩ := po_of (x := p - 3 * k) (y := -k) h0 (.inl ⟨rfl, by omega, by omega⟩)
    rw [e, if_pos rfl]; omega
  · rw [if_neg a, if_neg a]
    by_cases b : p > 0
    · rw [if_pos b, if_pos b]
      obtain ⟨_, e⟩ := po_of (x := -k) (y := k - p) h0 (by omega)
      rw [e]
      split
      · omega
      · rw [if_pos rfl]; omega
    · rw [if_neg b, if_neg b]
      by_cases c : p > -2 * k
      · rw [if_pos c, if_pos c]
        obtain ⟨_, e⟩ := po_of (x := -k - p) (y := k) h0 (by omega)
        rw [e]
        split
        · omega
        · split
          · omega
          · rw [if_pos rfl]; omega
      · rw [if_neg c, if_neg c]
        obtain ⟨_, e⟩ := po_of (x := k) (y := p + 3 * k) h0 (by omega)
        rw [e]
        split
        · omega
        · split
          · omega
          · split
            · omega
            · omega
theorem root_unique {n r r' : Int} (h : IsRoot n r) (h' : IsRoot n r') : r = r' := by
  have key : ∀ a b : Int, IsRoot n a → IsRoot n b → a ≤ b := by
    intro a b ⟨a0, a1, _⟩ ⟨b0, _, b2⟩
    rcases Int.lt_or_le b a with l | l
    · exfalso
      have : (b + 1) * (b + 1) ≤ a * a := Int.mul_le_mul (by omega) (by omega) (by omega) a0
      omega
    · exact l
  exact Int.le_antisymm (key _ _ h h') (key _ _ h' h)
def rotx (q : Nat) (x y : Int) : Int := if q = 1 then -y else if q = 2 then -x else if q = 3 then y else x
def roty (q : Nat) (x y : Int) : Int := if q = 1 then x else if q = 2 then -y else if q = 3 then -x else y
def mir (r : Bool) (y : Int) : Int := if r then -y else y
def tpx (q : Nat) (r : Bool) (x y : Int) : Int := rotx ((4 - q) % 4) x y
def tpy (q : Nat) (r : Bool) (x y : Int) : Int := mir r (roty ((4 - q) % 4) x y)
def fpx (q : Nat) (r : Bool) (u v : Int) : Int := rotx q u (mir r v)
def fpy (q : Nat) (r : Bool) (u v : Int) : Int := roty q u (mir r v)
theorem tp_fp {q : Nat} (hq : q < 4) (r : Bool) (u v : Int) : tpx q r (fpx q r u v) (fpy q r u v) = u ∧ tpy q r (fpx q r u v) (fpy q r u v) = v := by
  rcases (show q = 0 ∨ q = 1 ∨ q = 2 ∨ q = 3 by omega) with rfl | rfl | rfl | rfl <;> cases r <;> simp [tpx, tpy, fpx, fpy, rotx, roty, mir]
theorem fp_tp {q : Nat} (hq : q < 4) (r : Bool) (x y : Int) : fpx q r (tpx q r x y) (tpy q r x y) = x ∧ fpy q r (tpx q r x y) (tpy q r x y) = y := by
  rcases (show q = 0 ∨ q = 1 ∨ q = 2 ∨ q = 3 by omega) with rfl | rfl | rfl | rfl <;> cases r <;> simp [tpx, tpy, fpx, fpy, rotx, roty, mir]
def at' (q : Nat) (r : Bool) (x y : Int) : Int := po (tpx q r x y) (tpy q r x y)
theorem at_inj {q : Nat} (hq : q < 4) {r : Bool} {x y x' y' : Int} (e : at' q r x y = at' q r x' y') : x = x' ∧ y = y' := by
  obtain ⟨h1, h2⟩ := po_inj e
  have a := fp_tp hq r x y
  have b := fp_tp hq r x' y'
  rw [h1, h2] at a
  exact ⟨a.1.symm.trans b.1, a.2.symm.trans b.2⟩
theorem at_fp {q : Nat} (hq : q < 4) (r : Bool) (u v : Int) : at' q r (fpx q r u v) (fpy q r u v) = po u v := by
  obtain ⟨h1, h2⟩ := tp_fp hq r u v
  unfold at'; rw [h1, h2]
theorem at_nonneg (q : Nat) (r : Bool) (x y : Int) : 0 ≤ at' q r x y := (po_bounds _ _).1
theorem newton {n r : Int} (hn : 0 < n) (hr : 1 ≤ r) (h : n < (r + 1) * (r + 1) := by assumption) : 1 ≤ (r + n / r) / 2 ∧ n < ((r + n / r) / 2 + 1) * ((r + n / r) / 2 + 1) := by
  have h1 : n < r * (n / r + 1) := by
    have := Int.lt_mul_ediv_self_add (x := n) (k := r) (by omega)
    rw [Int.mul_add]; omega
  have q0 : 0 ≤ n / r := Int.ediv_nonneg (by omega) (by omega)
  generalize n / r = t at *
  have hb : r + t + 1 ≤ 2 * ((r + t) / 2 + 1) := by omega
  have hb1 : 1 ≤ (r + t) / 2 := by
    rcases Int.lt_or_le r 2 with h2 | h2
    · have : r = 1 := by omega
      subst this
      omega
    · omega
  generalize (r + t) / 2 = b at *
  refine ⟨hb1, ?_⟩
  have a1 : (r + t + 1) * (r + t + 1) ≤ (2 * (b + 1)) * (2 * (b + 1)) := Int.mul_le_mul hb hb (by omega) (by omega)
  have a2 : 4 * (r * (t + 1)) ≤ (r + t + 1) * (r + t + 1) := by
    have sq : 0 ≤ (r - (t + 1)) * (r - (t + 1)) := by
      rcases Int.le_total 0 (r - (t + 1)) with h | h
      · exact Int.mul_nonneg h h
      · exact Int.mul_nonneg_of_nonpos_of_nonpos h h
    have g1 : ∀ u : Int, (r - u) * (r - u) = r * r - 2 * (r * u) + u * u := fun u => by
      rw [Int.sub_mul, Int.mul_sub, Int.mul_sub, Int.mul_comm u r]; omega
    have g2 : ∀ u : Int, (r + u) * (r + u) = r * r + 2 * (r * u) + u * u := fun u => by
      rw [Int.add_mul, Int.mul_add, Int.mul_add, Int.mul_comm u r]; omega
    have e1 := g1 (t + 1)
    have e2 := g2 (t + 1)
    rw [← Int.add_assoc] at e2
    omega
  have e3 : (2 * (b + 1)) * (2 * (b + 1)) = 4 * ((b + 1) * (b + 1)) := by
    rw [Int.mul_assoc, Int.mul_left_comm (b + 1) 2, ← Int.mul_assoc]; rfl
  omega
end Sp
namespace K
open PySem L2 DL Sp
abbrev I (i : Int) : Dv := .d (.int i)
abbrev pr (x y : Int) : Dv := .d (.tuple [.int x, .int y])
def hdS (q : Nat) : Str := if q = 0 then "e" else if q = 1 then "n" else if q = 2 then "w" else "s"
def tnS (r : Bool) : Str := if r then "r" else "l"
abbrev spi (s : Int) (q : Nat) (r : Bool) : Dv := .d (.tuple [.int s, .str (hdS q), .str (tnS r)])
theorem idx_hd {q : Nat} (hq : q < 4) : idxD (.str (hdS q)) [.str "e", .str "n", .str "w", .str "s"] = some q := by
  rcases (show q = 0 ∨ q = 1 ∨ q = 2 ∨ q = 3 by omega) with rfl | rfl | rfl | rfl <;> decide +kernel
theorem eqv_tn (r : Bool) : PyData.eqv (.str (tnS r)) (.str "r") = r := by cases r <;> decide +kernel
theorem shaped_hd (q : Nat) : SeqAt.shaped (.str (hdS q)) = true := by
  unfold hdS; repeat' split
  all_goals decide +kernel
theorem shaped_tn (r : Bool) : SeqAt.shaped (.str (tnS r)) = true := by cases r <;> decide +kernel
theorem shaped_int (i : Int) : SeqAt.shaped (.int i) = true := rfl
theorem shaped_r : SeqAt.shaped (.str "r") = true := by decide +kernel
theorem eqv_int (i j : Int) : PyData.eqv (.int i) (.int j) = decide (i = j) := by unfold PyData.eqv; by_cases h : i = j <;> simp [h]
def F_offset_of : FD := fun ds m Q => ∃ s q r n, ds = [spi s q r, I n] ∧ s ≤ n ∧ Q (I (n - s)) m
def F_whole_root : FD := fun ds m Q => ∃ n, ds = [I n] ∧ 0 ≤ n ∧ n < 2 ^ 130 ∧ ∀ r, IsRoot n r → Q (I r) m
def F_plain_ring : FD := fun ds m Q => ∃ n, ds = [I n] ∧ 0 ≤ n ∧ n < 2 ^ 120 ∧ ∀ r, IsRoot n r → Q (I ((r + 1) / 2)) m
def F_plain_place : FD := fun ds m Q => ∃ n, ds = [I n] ∧ 0 ≤ n ∧ n < 2 ^ 120 ∧ ∀ x y, po x y = n → Q (pr x y) m
def F_quarters_of : FD := fun ds m Q => ∃ q, ds = [.d (.str (hdS q))] ∧ q < 4 ∧ Q (I (q : Nat)) m
def F_turned_left : FD := fun ds m Q => ∃ x y, ∃ q : Nat, ds = [pr x y, I q] ∧ Q (pr (rotx q x y) (roty q x y)) m
def F_mirrored_by : FD := fun ds m Q => ∃ r x y, ds = [.d (.str (tnS r)), pr x y] ∧ Q (pr x (mir r y)) m
def F_from_plain : FD := fun ds m Q => ∃ s q r x y, ds = [spi s q r, pr x y] ∧ q < 4 ∧ Q (pr (fpx q r x y) (fpy q r x y)) m
def F_place_of : FD := fun ds m Q => ∃ s q r n, ds = [spi s q r, I n] ∧ q < 4 ∧ (s ≤ n ∧ n - s < 2 ^ 120) ∧ ∀ x y, at' q r x y = n - s → Q (pr x y) m
def bes (s : Int) (q : Nat) (r : Bool) (x y : Int) : List Int := [s + at' q r (x + 1) y, s + at' q r x (y + 1), s + at' q r (x + -1) y, s + at' q r x (y + -1)]
theorem mo_offset_of : MoA F_offset_of := fun _ _ _ _ h ⟨s, q, r, n, e, l, z⟩ => ⟨s, q, r, n, e, l, h _ _ z⟩
theorem mo_whole_root : MoA F_whole_root := fun _ _ _ _ h ⟨n, e, l, u, z⟩ => ⟨n, e, l, u, fun r hr => h _ _ (z r hr)⟩
theorem mo_plain_ring : MoA F_plain_ring := fun _ _ _ _ h ⟨n, e, l, u, z⟩ => ⟨n, e, l, u, fun r hr => h _ _ (z r hr)⟩
theorem mo_plain_place : MoA F_plain_place := fun _ _ _ _ h ⟨n, e, l, u, z⟩ => ⟨n, e, l, u, fun x y hr => h _ _ (z x y hr)⟩
theorem mo_quarters_of : MoA F_quarters_of := fun _ _ _ _ h ⟨q, e, l, z⟩ => ⟨q, e, l, h _ _ z⟩
theorem mo_turned_left : MoA F_turned_left := fun _ _ _ _ h ⟨x, y, q, e, z⟩ => ⟨x, y, q, e, h _ _ z⟩
theorem mo_mirrored_by : MoA F_mirrored_by := fun _ _ _ _ h ⟨r, x, y, e, z⟩ => ⟨r, x, y, e, h _ _ z⟩
theorem mo_from_plain : MoA F_from_plain := fun _ _ _ _ h ⟨s, q, r, x, y, e, l, z⟩ => ⟨s, q, r, x, y, e, l, h _ _ z⟩
theorem mo_place_of : MoA F_place_of := fun _ _ _ _ h ⟨s, q, r, n, e, l, b, z⟩ => ⟨s, q, r, n, e, l, b, fun x y hr => h _ _ (z x y hr)⟩
end K
namespace DL
open PySem L2
theorem ixN_lt {n : Nat} {i : Int} (h0 : 0 ≤ i) (h : i < n) : ixN n i = some i.toNat := by unfold ixN; rw [if_pos h0, if_pos h]
theorem atI_of {α : Type} {xs : List α} {i : Int} {k : Nat} {v : α} (e : i = k) (h : xs[k]? = some v) : atI xs i = some v := by rw [e]; exact atI_nat h
theorem at0 {α : Type} {a : α} {r : List α} : atI (a :: r) 0 = some a := atI_of (k := 0) rfl rfl
theorem at1 {α : Type} {a b : α} {r : List α} : atI (a :: b :: r) 1 = some b := atI_of (k := 1) rfl rfl
theorem at2 {α : Type} {a b c : α} {r : List α} : atI (a :: b :: c :: r) 2 = some c := atI_of (k := 2) rfl rfl
theorem at3 {α : Type} {a b c d : α} {r : List α} : atI (a :: b :: c :: d :: r) 3 = some d := atI_of (k := 3) rfl rfl
theorem at4 {α : Type} {a b c d e : α} {r : List α} : atI (a :: b :: c :: d :: e :: r) 4 = some e := atI_of (k := 4) rfl rfl
theorem ix0 {n : Nat} : ixN (n + 1) 0 = some 0 := ixN_lt (by decide) (by omega)
theorem ix1 {n : Nat} : ixN (n + 1 + 1) 1 = some 1 := ixN_lt (by decide) (by omega)
theorem ix2 {n : Nat} : ixN (n + 1 + 1 + 1) 2 = some 2 := ixN_lt (by decide) (by omega)
theorem ix3 {n : Nat} : ixN (n + 1 + 1 + 1 + 1) 3 = some 3 := ixN_lt (by decide) (by omega)
theorem ix4 {n : Nat} : ixN (n + 1 + 1 + 1 + 1 + 1) 4 = some 4 := ixN_lt (by decide) (by omega)
theorem szk {k : Nat} (h : k ≤ 16777216) : k ≤ sizeLine := by rw [sizeLine_eq]; exact h
theorem bits_ok {n : Int} (h0 : 0 < n) (h1 : n < 2 ^ 130) : (0 ≤ ((Builtin.Int.intBits n : Int) + 1) / 2 ∧ ((Builtin.Int.intBits n : Int) + 1) / 2 ≤ 66) ∧
    (n < (1 * 2 ^ (((Builtin.Int.intBits n : Int) + 1) / 2).toNat) * (1 * 2 ^ (((Builtin.Int.intBits n : Int) + 1) / 2).toNat) ∧ 1 ≤ (1 : Int) * 2 ^ (((Builtin.Int.intBits n : Int) + 1) / 2).toNat ∧ (1 : Int) * 2 ^ (((Builtin.Int.intBits n : Int) + 1) / 2).toNat < 2 ^ 100) := by
  obtain ⟨k, rfl⟩ : ∃ k : Nat, n = k := ⟨n.toNat, by omega⟩
  have hk : k ≠ 0 := by omega
  have e : Builtin.Int.intBits (k : Int) = k.log2 + 1 := by
    unfold Builtin.Int.intBits
    have : ((k : Int) == 0) = false := by simpa using hk
    rw [this]; rfl
  rw [e]
  have hlt : k < 2 ^ (k.log2 + 1) := Nat.lt_log2_self
  have hb : k.log2 < 130 := (Nat.log2_lt hk).mpr (by
    have : ((k : Nat) : Int) < ((2 ^ 130 : Nat) : Int) := by exact_mod_cast h1
    exact Int.ofNat_lt.mp this)
  generalize k.log2 = b at *
  have eB : (((b + 1 : Nat) : Int) + 1) / 2 = (((b + 2) / 2 : Nat) : Int) := by omega
  rw [eB, Int.toNat_natCast]
  generalize hB : (b + 2) / 2 = B at *
  have hB66 : B ≤ 66 := by omega
  refine ⟨⟨by omega, by omega⟩, ?_, ?_, ?_⟩
  · have h2 : k < 2 ^ B * 2 ^ B := by
      rw [← Nat.pow_add]
      exact Nat.lt_of_lt_of_le hlt (Nat.pow_le_pow_right (by decide) (by omega))
    rw [Int.one_mul]
    exact_mod_cast h2
  · have : 1 ≤ 2 ^ B := Nat.one_le_two_pow
    rw [Int.one_mul]
    exact_mod_cast this
  · have : 2 ^ B < 2 ^ 100 := Nat.pow_lt_pow_right (by decide) (by omega)
    rw [Int.one_mul]
    exact_mod_cast this
theorem lc_fm {xs : List Dv} {still : M → Prop} {m1 : M} {g : TGd} {tt : TBd} {te : TD} {vs : List Nat} {δ : Dn} {Q : QD} (f : Dv → Option PyData) (hx : xs.length ≤ 16777216) (hst : ∀ m, still m)
    (h : ∀ x ∈ xs, ∀ (m' : M) (R : QD) (S : M → Prop), (match f x with | some y => R (.d y) m' | none => S m') → g x (wipeD δ vs) m' fun δ2 m2 => tt δ2 m2 fun b m3 => if b = true then te δ2 m3 R else S m3)
    (q : Q (.d (.list (xs.filterMap f))) m1) :
    xs.length ≤ 16777216 ∧ ∀ D, m1 D = none → ∃ Pv : Nat → List PyData → M → Prop, Pv 0 [] m1 ∧
      (∀ i acc m, Pv i acc m → m D = none ∧ still (setM m D (.lst (acc.map .d)))) ∧
      (∀ i x acc m, xs[i]? = some x → Pv i acc m → g x (wipeD δ vs) (setM m D (.lst (acc.map .d))) fun δ2 m2 => tt δ2 m2 fun b m3 => if b = true then te δ2 m3 fun y m4 => ∃ z, y = .d z ∧ m4 D = some (.lst (acc.map .d)) ∧ Pv (i + 1) (acc ++ [z]) (delM m4 D)
        else m3 D = some (.lst (acc.map .d)) ∧ Pv (i + 1) acc (delM m3 D)) ∧ ∀ acc m, Pv xs.length acc m → Q (.d (.list acc)) m := by
  refine ⟨hx, fun D hD => ⟨fun i acc m => m = m1 ∧ acc = (xs.take i).filterMap f, ⟨rfl, rfl⟩, fun i acc m ⟨e, _⟩ => ⟨by rw [e]; exact hD, hst _⟩, ?_, ?_⟩⟩
  · rintro i x acc m hxi ⟨rfl, rfl⟩
    have ht : (xs.take (i + 1)).filterMap f = (xs.take i).filterMap f ++ (match f x with | some y => [y] | none => []) := by
      rw [List.take_succ, hxi, List.filterMap_append]
      congr 1
      simp only [Option.toList, List.filterMap_cons, List.filterMap_nil]
      cases f x <;> rfl
    refine h x (List.mem_of_getElem? hxi) _ _ _ ?_
    cases e : f x with
    | some y =>
      rw [e] at ht
      exact ⟨y, rfl, setM_same, delM_setM hD, ht.symm⟩
    | none =>
      rw [e] at ht
      exact ⟨setM_same, delM_setM hD, by rw [ht]; simp⟩
  · rintro acc m ⟨rfl, rfl⟩
    rw [List.take_length]
    exact q
theorem dLc_fm {w : TId} {g : TGd} {tt : TBd} {te : TD} {vs : List Nat} {δ : Dn} {m : M} {Q : QD} (f : Dv → Option PyData) (xs : List Dv) (hw : ∀ R : List Dv → (M → Prop) → M → Prop, R xs (fun _ => True) m → w δ m R) (hx : xs.length ≤ 16777216)
    (h : ∀ x ∈ xs, ∀ (m' : M) (R : QD) (S : M → Prop), (match f x with | some y => R (.d y) m' | none => S m') → g x (wipeD δ vs) m' fun δ2 m2 => tt δ2 m2 fun b m3 => if b = true then te δ2 m3 R else S m3)
    (q : Q (.d (.list (xs.filterMap f))) m) : dLc w g tt te vs δ m Q := hw _ (lc_fm f hx (fun _ => trivial) h q)
theorem for_rng {w : TId} {g : TGd} {tb : TSd} {D : DEnds} {δ : Dn} {m : M} (n : Nat) (hw : ∀ R : List Dv → (M → Prop) → M → Prop, R ((List.range n).map fun i => .d (.int ((i : Nat) : Int))) (fun _ => True) m → w δ m R)
    (Pv : Nat → Dn → M → Prop) (h0 : Pv 0 δ m) (ht : ∀ i δ m, i < n → Pv i δ m → g (.d (.int (i : Nat))) δ m fun δ2 m2 => tb { D with nx := Pv (i + 1), ct := Pv (i + 1), bk := D.nx } δ2 m2) (hd : ∀ δ m, Pv n δ m → D.nx δ m) : sFor w g tb D δ m := by
  refine hw _ ⟨Pv, h0, fun _ _ _ _ => trivial, fun i x δ m hx p => ?_, fun δ m p => hd δ m (by simpa using p)⟩
  have hi : i < n := by have := (List.getElem?_eq_some_iff.mp hx).1; simpa using this
  rw [List.getElem?_map, List.getElem?_range hi] at hx
  cases hx
  exact ht i δ m hi p
theorem for_its {w : TId} {g : TGd} {tb : TSd} {D : DEnds} {δ : Dn} {m : M} (xs : List Dv) (hw : ∀ R : List Dv → (M → Prop) → M → Prop, R xs (fun _ => True) m → w δ m R)
    (Pv : Nat → Dn → M → Prop) (h0 : Pv 0 δ m) (ht : ∀ i x δ m, xs[i]? = some x → Pv i δ m → g x δ m fun δ2 m2 => tb { D with nx := Pv (i + 1), ct := Pv (i + 1), bk := D.nx } δ2 m2) (hd : ∀ δ m, Pv xs.length δ m → D.nx δ m) : sFor w g tb D δ m :=
  hw _ ⟨Pv, h0, fun _ _ _ _ => trivial, ht, hd⟩
theorem ints_dp {K : PySem.W.Frag} {I : Hp} : ∀ ns : List Int, DpAll K I (ns.map V.int) (ns.map .int)
  | [] => .nil
  | n :: ns => .cons (.int n) (ints_dp ns)
theorem relS (x : Str) (t : Tok) : RelV (.str x) (.str x t) := ⟨t, rfl⟩
end DL
namespace Sp
def c1 (a n : Int) : Int := if a < n then 1 else 0
def cnt (u v : Int) : Int := c1 (po (u + 1) v) (po u v) + c1 (po u (v + 1)) (po u v) + c1 (po (u + -1) v) (po u v) + c1 (po u (v + -1)) (po u v)
theorem c1_lt {a n : Int} (h : a < n) : c1 a n = 1 := by unfold c1; rw [if_pos h]
theorem c1_ge {a n : Int} (h : ¬ a < n) : c1 a n = 0 := by unfold c1; rw [if_neg h]
theorem sq_bound (k : Int) (h : 0 ≤ k) : 4 * (k + 1) * (k + 1) = 4 * k * k + 8 * k + 4 := by
  rw [Int.mul_add, Int.mul_add, Int.add_mul]; omega
theorem sq_less (k : Int) : 4 * (k - 1) * (k - 1) = 4 * k * k - 8 * k + 4 := by
  rw [Int.mul_sub, Int.mul_sub, Int.sub_mul]; omega
theorem po_out {x y k n : Int} (hk : 0 ≤ k) (hr : ring x y = k + 1) (hn : n ≤ 4 * k * k + 4 * k) : n < po x y := by
  obtain ⟨_, b, _, d⟩ := po_bounds x y
  rw [hr] at b d
  have := d (by omega)
  have e := sq_bound k hk
  omega
theorem po_in {x y k n : Int} (hk : 1 ≤ k) (hr : ring x y ≤ k - 1) (hn : 4 * k * k - 4 * k < n) : po x y < n := by
  obtain ⟨_, _, c, _⟩ := po_bounds x y
  have h0 := (ring_cases x y).1
  have m : 4 * ring x y * ring x y ≤ 4 * (k - 1) * (k - 1) := Int.mul_le_mul (by omega) hr h0 (by omega)
  have e := sq_less k
  omega
theorem ring_is {x y k : Int} (h : (x = k ∨ x = -k ∨ y = k ∨ y = -k) ∧ -k ≤ x ∧ x ≤ k ∧ -k ≤ y ∧ y ≤ k) : ring x y = k := by
  have b := ring_cases x y
  omega
theorem po_low {x y k : Int} (h : y = -k) (h1 : -k ≤ x) (h2 : x ≤ k) : po x y = 4 * k * k + 3 * k + x := by
  obtain ⟨_, e⟩ := po_of (x := x) (y := y) (k := k) (by omega) (.inl ⟨h, h1, h2⟩)
  rw [e, if_pos h]
theorem po_left {x y k : Int} (h : x = -k) (h1 : -k < y) (h2 : y ≤ k) : po x y = 4 * k * k + k - y := by
  obtain ⟨_, e⟩ := po_of (x := x) (y := y) (k := k) (by omega) (.inr (.inl ⟨h, h1, h2⟩))
  rw [e, if_neg (by omega), if_pos h]
theorem po_top {x y k : Int} (h : y = k) (h1 : -k < x) (h2 : x ≤ k) : po x y = 4 * k * k - k - x := by
  obtain ⟨_, e⟩ := po_of (x := x) (y := y) (k := k) (by omega) (.inr (.inr (.inl ⟨h, h1, h2⟩)))
  rw [e, if_neg (by omega), if_neg (by omega), if_pos h]
theorem po_right {x y k : Int} (h : x = k) (h1 : -k < y) (h2 : y < k) : po x y = 4 * k * k - 3 * k + y := by
  obtain ⟨_, e⟩ := po_of (x := x) (y := y) (k := k) (by omega) (.inr (.inr (.inr ⟨h, h1, h2⟩)))
  rw [e, if_neg (by omega), if_neg (by omega), if_neg (by omega)]
theorem beside (u v : Int) : (po (u + 1) v = po u v + 1 ∨ po u (v + 1) = po u v + 1 ∨ po (u + -1) v = po u v + 1 ∨ po u (v + -1) = po u v + 1) ∧
    (0 < po u v → (po (u + 1) v = po u v - 1 ∨ po u (v + 1) = po u v - 1 ∨ po (u + -1) v = po u v - 1 ∨ po u (v + -1) = po u v - 1)) ∧
    (0 < po u v → ∀ t, IsRoot (4 * po u v - 1) t → cnt u v = if (t + 1) * (t + 1) / 4 = po u v then 1 else 2) ∧ (po u v = 0 → cnt u v = 0) := by
  obtain ⟨k, hr, hk, h⟩ := po_sides u v
  rcases (show k ≤ 0 ∨ 0 < k by omega) with kz | kp
  · have k0 : k = 0 := by omega
    subst k0
    have hu : u = 0 ∧ v = 0 := by omega
    obtain ⟨rfl, rfl⟩ := hu
    have e0 : po 0 0 = 0 := by decide
    have e1 : po 1 0 = 1 := by decide
    have e2 : po 0 1 = 3 := by decide
    have e3 : po (-1) 0 = 5 := by decide
    have e4 : po 0 (-1) = 7 := by decide
    refine ⟨.inl (by decide), fun h => absurd h (by decide), fun h => absurd h (by decide), fun _ => by decide⟩
  have b := po_bounds u v
  rw [hr] at b
  have hpos : 0 < po u v := by
    have h1 := b.2.2.2 kp
    have h2 : 4 * k * 1 ≤ 4 * k * k := Int.mul_le_mul_of_nonneg_left (by omega) (by omega)
    omega
  -- a corner, by its square
  have cor : ∀ w : Int, 0 < w → (w * w = 4 * po u v ∨ w * w = 4 * po u v + 1) → ∀ t, IsRoot (4 * po u v - 1) t → (t + 1) * (t + 1) / 4 = po u v := by
    intro w w0 hw t ht
    have hw1 : IsRoot (4 * po u v - 1) (w - 1) := by
      refine ⟨by omega, ?_, ?_⟩
      · have : (w - 1) * (w - 1) = w * w - 2 * w + 1 := by rw [Int.mul_sub, Int.sub_mul]; omega
        have ww : 0 < w * w := Int.mul_pos w0 w0
        rcases (show w = 1 ∨ 2 ≤ w by omega) with rfl | h2
        · exfalso; simp at hw; omega
        · omega
      · rw [Int.sub_add_cancel]; omega
    have := root_unique ht hw1
    subst this
    rw [Int.sub_add_cancel]
    omega
  -- none, between two squares
  have noc : ∀ w : Int, 0 ≤ w → w * w < 4 * po u v → 4 * po u v + 4 ≤ (w + 1) * (w + 1) → ∀ t, IsRoot (4 * po u v - 1) t → ¬ (t + 1) * (t + 1) / 4 = po u v := by
    intro w w0 h1 h2 t ht
    have hw1 : IsRoot (4 * po u v - 1) w := ⟨w0, by omega, by omega⟩
    have := root_unique ht hw1
    subst this
    omega
  have s1 : (4 * k - 2) * (4 * k - 2) = 4 * (4 * k * k) - 16 * k + 4 := by
    have : (4 * k - 2) * (4 * k - 2) = 4 * k * (4 * k) - 16 * k + 4 := by rw [Int.mul_sub, Int.sub_mul]; omega
    have e : 4 * k * (4 * k) = 4 * (4 * k * k) := Int.mul_left_comm (4 * k) 4 k
    omega
  have s2 : (4 * k - 1) * (4 * k - 1) = 4 * (4 * k * k) - 8 * k + 1 := by
    have : (4 * k - 1) * (4 * k - 1) = 4 * k * (4 * k) - 8 * k + 1 := by rw [Int.mul_sub, Int.sub_mul]; omega
    have e : 4 * k * (4 * k) = 4 * (4 * k * k) := Int.mul_left_comm (4 * k) 4 k
    omega
  have s3 : (4 * k) * (4 * k) = 4 * (4 * k * k) := Int.mul_left_comm (4 * k) 4 k
  have s4 : (4 * k + 1) * (4 * k + 1) = 4 * (4 * k * k) + 8 * k + 1 := by rw [Int.mul_add, Int.add_mul, s3]; omega
  have s5 : (4 * k + 2) * (4 * k + 2) = 4 * (4 * k * k) + 16 * k + 4 := by rw [Int.mul_add, Int.add_mul, s3]; omega
  have kk : 4 * (k + 1) * (k + 1) = 4 * k * k + 8 * k + 4 := sq_bound k hk
  refine ⟨?_, fun _ => ?_, fun _ t ht => ?_, fun h0 => by omega⟩
  · -- the next one
    rcases h with ⟨h1, h2, h3, h⟩ | ⟨h1, h2, h3, h⟩ | ⟨h1, h2, h3, h⟩ | ⟨h1, h2, h3, h⟩
    · left
      rcases (show u < k ∨ u = k by omega) with hl | hl
      · rw [po_low (x := u + 1) (k := k) h1 (by omega) (by omega)]; omega
      · rw [po_right (x := u + 1) (k := k + 1) (by omega) (by omega) (by omega)]; omega
    · right; right; right
      rcases (show -k < v + -1 ∨ v + -1 = -k by omega) with hl | hl
      · rw [po_left (x := u) (k := k) h1 (by omega) (by omega)]; omega
      · rw [po_low (x := u) (k := k) hl (by omega) (by omega)]; omega
    · right; right; left
      rcases (show -k < u + -1 ∨ u + -1 = -k by omega) with hl | hl
      · rw [po_top (x := u + -1) (k := k) h1 (by omega) (by omega)]; omega
      · rw [po_left (x := u + -1) (k := k) hl (by omega) (by omega)]; omega
    · right; left
      rcases (show v + 1 < k ∨ v + 1 = k by omega) with hl | hl
      · rw [po_right (y := v + 1) (k := k) h1 (by omega) (by omega)]; omega
      · rw [po_top (y := v + 1) (k := k) hl (by omega) (by omega)]; omega
  · -- the one ahead
    rcases h with ⟨h1, h2, h3, h⟩ | ⟨h1, h2, h3, h⟩ | ⟨h1, h2, h3, h⟩ | ⟨h1, h2, h3, h⟩
    · rcases (show -k < u ∨ u = -k by omega) with hl | hl
      · right; right; left
        rw [po_low (x := u + -1) (k := k) h1 (by omega) (by omega)]; omega
      · right; left
        rw [po_left (y := v + 1) (k := k) hl (by omega) (by omega)]; omega
    · rcases (show v < k ∨ v = k by omega) with hl | hl
      · right; left
        rw [po_left (y := v + 1) (k := k) h1 (by omega) (by omega)]; omega
      · left
        rw [po_top (x := u + 1) (k := k) hl (by omega) (by omega)]; omega
    · rcases (show u < k ∨ u = k by omega) with hl | hl
      · left
        rw [po_top (x := u + 1) (k := k) h1 (by omega) (by omega)]; omega
      · right; right; right
        rw [po_right (y := v + -1) (k := k) hl (by omega) (by omega)]; omega
    · rcases (show -k + 1 < v ∨ v = -k + 1 by omega) with hl | hl
      · right; right; right
        rw [po_right (y := v + -1) (k := k) h1 (by omega) (by omega)]; omega
      · right; right; left
        have e := sq_less k
        rw [po_low (x := u + -1) (k := k - 1) (by omega) (by omega) (by omega)]; omega
  · -- how many are less
    unfold cnt
    rcases h with ⟨h1, h2, h3, h⟩ | ⟨h1, h2, h3, h⟩ | ⟨h1, h2, h3, h⟩ | ⟨h1, h2, h3, h⟩
    · -- low
      have o4 : ¬ po u (v + -1) < po u v := by have := po_out (n := po u v) hk (ring_is (x := u) (y := v + -1) (k := k + 1) (by omega)) (by omega); omega
      rcases (show u = -k ∨ (-k < u ∧ u < k) ∨ u = k by omega) with hl | hl | hl
      · have o1 : po (u + 1) v = po u v + 1 := by rw [po_low (x := u + 1) (k := k) h1 (by omega) (by omega)]; omega
        have o3 : ¬ po (u + -1) v < po u v := by have := po_out (n := po u v) hk (ring_is (x := u + -1) (y := v) (k := k + 1) (by omega)) (by omega); omega
        have o2 : po u (v + 1) = po u v - 1 := by rw [po_left (y := v + 1) (k := k) hl (by omega) (by omega)]; omega
        rw [if_pos (cor (4 * k + 1) (by omega) (.inr (by omega)) t ht), c1_ge (by omega), c1_lt (by omega), c1_ge o3, c1_ge o4]; rfl
      · have o1 : po (u + 1) v = po u v + 1 := by rw [po_low (x := u + 1) (k := k) h1 (by omega) (by omega)]; omega
        have o3 : po (u + -1) v = po u v - 1 := by rw [po_low (x := u + -1) (k := k) h1 (by omega) (by omega)]; omega
        have o2 : po u (v + 1) < po u v := po_in (k := k) (by omega) (by have := ring_cases u (v + 1); omega) (by omega)
        rw [if_neg (noc (4 * k + 1) (by omega) (by omega) (by rw [show 4 * k + 1 + 1 = 4 * k + 2 by omega]; omega) t ht), c1_ge (by omega), c1_lt o2, c1_lt (by omega), c1_ge o4]; rfl
      · have o1 : ¬ po (u + 1) v < po u v := by have := po_out (n := po u v) hk (ring_is (x := u + 1) (y := v) (k := k + 1) (by omega)) (by omega); omega
        have o3 : po (u + -1) v = po u v - 1 := by rw [po_low (x := u + -1) (k := k) h1 (by omega) (by omega)]; omega
        have o2 : po u (v + 1) < po u v := by
          rw [po_right (y := v + 1) (k := k) hl (by omega) (by omega)]; omega
        rw [if_neg (noc (4 * k + 1) (by omega) (by omega) (by rw [show 4 * k + 1 + 1 = 4 * k + 2 by omega]; omega) t ht), c1_ge o1, c1_lt o2, c1_lt (by omega), c1_ge o4]; rfl
    · -- left
      have o3 : ¬ po (u + -1) v < po u v := by have := po_out (n := po u v) hk (ring_is (x := u + -1) (y := v) (k := k + 1) (by omega)) (by omega); omega
      have o4 : po u (v + -1) = po u v + 1 := by
        rcases (show -k < v + -1 ∨ v + -1 = -k by omega) with hl | hl
        · rw [po_left (x := u) (k := k) h1 (by omega) (by omega)]; omega
        · rw [po_low (x := u) (k := k) hl (by omega) (by omega)]; omega
      rcases (show v = k ∨ v < k by omega) with hl | hl
      · have o2 : ¬ po u (v + 1) < po u v := by have := po_out (n := po u v) hk (ring_is (x := u) (y := v + 1) (k := k + 1) (by omega)) (by omega); omega
        have o1 : po (u + 1) v = po u v - 1 := by rw [po_top (x := u + 1) (k := k) hl (by omega) (by omega)]; omega
        rw [if_pos (cor (4 * k) (by omega) (.inl (by omega)) t ht), c1_lt (by omega), c1_ge o2, c1_ge o3, c1_ge (by omega)]; rfl
      · have o2 : po u (v + 1) = po u v - 1 := by rw [po_left (y := v + 1) (k := k) h1 (by omega) (by omega)]; omega
        have o1 : po (u + 1) v < po u v := po_in (k := k) (by omega) (by have := ring_cases (u + 1) v; omega) (by omega)
        rw [if_neg (noc (4 * k) (by omega) (by omega) (by omega) t ht), c1_lt o1, c1_lt (by omega), c1_ge o3, c1_ge (by omega)]; rfl
    · -- top
      have o2 : ¬ po u (v + 1) < po u v := by have := po_out (n := po u v) hk (ring_is (x := u) (y := v + 1) (k := k + 1) (by omega)) (by omega); omega
      have o3 : po (u + -1) v = po u v + 1 := by
        rcases (show -k < u + -1 ∨ u + -1 = -k by omega) with hl | hl
        · rw [po_top (x := u + -1) (k := k) h1 (by omega) (by omega)]; omega
        · rw [po_left (x := u + -1) (k := k) hl (by omega) (by omega)]; omega
      rcases (show u = k ∨ u < k by omega) with hl | hl
      · have o1 : ¬ po (u + 1) v < po u v := by have := po_out (n := po u v) hk (ring_is (x := u + 1) (y := v) (k := k + 1) (by omega)) (by omega); omega
        have o4 : po u (v + -1) = po u v - 1 := by rw [po_right (y := v + -1) (k := k) hl (by omega) (by omega)]; omega
        rw [if_pos (cor (4 * k - 1) (by omega) (.inr (by omega)) t ht), c1_ge o1, c1_ge o2, c1_ge (by omega), c1_lt (by omega)]; rfl
      · have o1 : po (u + 1) v = po u v - 1 := by rw [po_top (x := u + 1) (k := k) h1 (by omega) (by omega)]; omega
        have o4 : po u (v + -1) < po u v := po_in (k := k) (by omega) (by have := ring_cases u (v + -1); omega) (by omega)
        rw [if_neg (noc (4 * k - 1) (by omega) (by omega) (by rw [Int.sub_add_cancel]; omega) t ht), c1_lt (by omega), c1_ge o2, c1_ge (by omega), c1_lt o4]; rfl
    · -- right
      have o1 : ¬ po (u + 1) v < po u v := by have := po_out (n := po u v) hk (ring_is (x := u + 1) (y := v) (k := k + 1) (by omega)) (by omega); omega
      have o2 : po u (v + 1) = po u v + 1 := by
        rcases (show v + 1 < k ∨ v + 1 = k by omega) with hl | hl
        · rw [po_right (y := v + 1) (k := k) h1 (by omega) (by omega)]; omega
        · rw [po_top (y := v + 1) (k := k) hl (by omega) (by omega)]; omega
      have o3 : po (u + -1) v < po u v := po_in (k := k) (by omega) (by have := ring_cases (u + -1) v; omega) (by omega)
      rcases (show v = -k + 1 ∨ -k + 1 < v by omega) with hl | hl
      · have o4 : ¬ po u (v + -1) < po u v := by
          rw [po_low (y := v + -1) (k := k) (by omega) (by omega) (by omega)]; omega
        rw [if_pos (cor (4 * k - 2) (by omega) (.inl (by omega)) t ht), c1_ge o1, c1_ge (by omega), c1_lt o3, c1_ge o4]; rfl
      · have o4 : po u (v + -1) = po u v - 1 := by rw [po_right (y := v + -1) (k := k) h1 (by omega) (by omega)]; omega
        rw [if_neg (noc (4 * k - 2) (by omega) (by omega) (by rw [show 4 * k - 2 + 1 = 4 * k - 1 by omega]; omega) t ht), c1_ge o1, c1_ge (by omega), c1_lt o3, c1_lt (by omega)]; rfl
end Sp
namespace Sp
theorem beside_at {q : Nat} (hq : q < 4) (r : Bool) (x y : Int) :
    (at' q r (x + 1) y = at' q r x y + 1 ∨ at' q r x (y + 1) = at' q r x y + 1 ∨ at' q r (x + -1) y = at' q r x y + 1 ∨ at' q r x (y + -1) = at' q r x y + 1) ∧
    (0 < at' q r x y → (at' q r (x + 1) y = at' q r x y - 1 ∨ at' q r x (y + 1) = at' q r x y - 1 ∨ at' q r (x + -1) y = at' q r x y - 1 ∨ at' q r x (y + -1) = at' q r x y - 1)) ∧
    (0 < at' q r x y → ∀ t, IsRoot (4 * at' q r x y - 1) t → c1 (at' q r (x + 1) y) (at' q r x y) + c1 (at' q r x (y + 1)) (at' q r x y) + c1 (at' q r (x + -1) y) (at' q r x y) + c1 (at' q r x (y + -1)) (at' q r x y) = if (t + 1) * (t + 1) / 4 = at' q r x y then 1 else 2) ∧
    (at' q r x y = 0 → c1 (at' q r (x + 1) y) (at' q r x y) + c1 (at' q r x (y + 1)) (at' q r x y) + c1 (at' q r (x + -1) y) (at' q r x y) + c1 (at' q r x (y + -1)) (at' q r x y) = 0) := by
  have B := beside (tpx q r x y) (tpy q r x y)
  unfold cnt at B
  unfold at'
  rcases (show q = 0 ∨ q = 1 ∨ q = 2 ∨ q = 3 by omega) with rfl | rfl | rfl | rfl <;> cases r <;>
    simp only [tpx, tpy, rotx, roty, mir, Nat.sub_zero, Nat.reduceMod, Nat.reduceSub, Nat.reduceEqDiff, if_true, if_false, Bool.false_eq_true, reduceIte, Int.neg_add, Int.neg_neg] at B ⊢
  all_goals
    obtain ⟨b1, b2, b3, b4⟩ := B
    refine ⟨by omega, fun h => by have := b2 h; omega, fun h t ht => ?_, fun h => by have := b4 h; omega⟩
    have := b3 h t ht
    rw [← this] <;> omega
theorem corner_gap (p : Int) (hp : 0 ≤ p) : (p + 1) * (p + 1) / 4 - p * p / 4 = p / 2 + (if p % 2 = 0 then 0 else 1) := by
  rcases Int.emod_two_eq p with h | h
  · obtain ⟨k, rfl⟩ : ∃ k, p = 2 * k := ⟨p / 2, by omega⟩
    have e0 : 2 * k * (2 * k) = 4 * (k * k) := by rw [Int.mul_left_comm, Int.mul_assoc, ← Int.mul_assoc]; rfl
    have e1 : (2 * k + 1) * (2 * k + 1) = 4 * (k * k) + 4 * k + 1 := by rw [Int.mul_add, Int.add_mul]; omega
    rw [if_pos h]
    omega
  · obtain ⟨k, rfl⟩ : ∃ k, p = 2 * k + 1 := ⟨p / 2, by omega⟩
    have e0 : 2 * k * (2 * k) = 4 * (k * k) := by rw [Int.mul_left_comm, Int.mul_assoc, ← Int.mul_assoc]; rfl
    have e1 : (2 * k + 1) * (2 * k + 1) = 4 * (k * k) + 4 * k + 1 := by rw [Int.mul_add, Int.add_mul]; omega
    have e2 : (2 * k + 1 + 1) * (2 * k + 1 + 1) = 4 * (k * k) + 8 * k + 4 := by
      rw [show 2 * k + 1 + 1 = 2 * k + 2 by omega, Int.mul_add, Int.add_mul]; omega
    rw [if_neg (by omega)]
    omega
end Sp
namespace K
open PySem L2 DL Sp
def DeckIs (o : MO) (c : Nat) : Prop := ∃ (ns : List Int) (i1 i2 i3 i4 : Int), o = .lst [.d (.list (ns.map .int)), I i1, I i2, I i3, I i4] ∧ ns.length ≤ 63 ∧ 0 ≤ i1 ∧ i1 ≤ ns.length ∧ 0 ≤ i3 ∧ i3 ≤ c
theorem DeckIs.mono {o : MO} {c d : Nat} (h : DeckIs o c) (l : c ≤ d) : DeckIs o d := by
  obtain ⟨ns, i1, i2, i3, i4, e, h1, h2, h3, h4, h5⟩ := h
  exact ⟨ns, i1, i2, i3, i4, e, h1, h2, h3, h4, by omega⟩
def F__law_deck : FD := fun ds m Q => ∃ ns : List Int, ds = [.d (.list (ns.map .int))] ∧ ns.length ≤ 63 ∧ ∀ p o, m p = none → DeckIs o 0 → Q (.r p) (setM m p o)
def F__law_spiral : FD := fun ds m Q => ∃ a o c, ds = [.r a] ∧ m a = some o ∧ DeckIs o c ∧ c < 2 ^ 36 ∧ ∀ s q r o', (-(10 ^ 18) ≤ s ∧ s ≤ 10 ^ 18) → q < 4 → DeckIs o' (c + 9) → Q (spi s q r) (setM m a o')
theorem mo__law_deck : MoA F__law_deck := fun _ _ _ _ h ⟨ns, e, l, z⟩ => ⟨ns, e, l, fun p o h1 h2 => h _ _ (z p o h1 h2)⟩
theorem mo__law_spiral : MoA F__law_spiral := fun _ _ _ _ h ⟨a, o, c, e, h1, h2, h3, z⟩ => ⟨a, o, c, e, h1, h2, h3, fun s q r o' a b d => h _ _ (z s q r o' a b d)⟩
theorem at_mem {ns : List Int} {r : Int} (h0 : 0 ≤ r) (h1 : r < ns.length) : ∃ v ∈ ns, atI (ns.map PyData.int) r = some (.int v) := by
  have hlt : r.toNat < ns.length := by omega
  exact ⟨ns[r.toNat], List.getElem_mem hlt, atI_of (k := r.toNat) (by omega) (by rw [List.getElem?_map, List.getElem?_eq_getElem hlt]; rfl)⟩
theorem hd_at {r : Int} (h0 : 0 ≤ r) (h1 : r < 4) : ∃ c, atI (Str.ofString "enws").cps.toList r = some c ∧ (⟨#[c]⟩ : Str) = hdS r.toNat := by
  rcases (show r = 0 ∨ r = 1 ∨ r = 2 ∨ r = 3 by omega) with rfl | rfl | rfl | rfl
  · exact ⟨101, by decide +kernel, by decide +kernel⟩
  · exact ⟨110, by decide +kernel, by decide +kernel⟩
  · exact ⟨119, by decide +kernel, by decide +kernel⟩
  · exact ⟨115, by decide +kernel, by decide +kernel⟩
theorem tn_at {r : Int} (h0 : 0 ≤ r) (h1 : r < 2) : ∃ c, atI (Str.ofString "lr").cps.toList r = some c ∧ (⟨#[c]⟩ : Str) = tnS (decide (r = 1)) := by
  rcases (show r = 0 ∨ r = 1 by omega) with rfl | rfl
  · exact ⟨108, by decide +kernel, by decide +kernel⟩
  · exact ⟨114, by decide +kernel, by decide +kernel⟩
theorem len_enws : (Str.ofString "enws").length ≤ 16777216 := by decide +kernel
theorem len_lr : (Str.ofString "lr").length ≤ 16777216 := by decide +kernel
end K
set_option maxHeartbeats 1000000
namespace Sp
def co (k : Int) : Int := (k + 1) * (k + 1) / 4
theorem co_step {k : Int} (hk : 0 ≤ k) : co (k + 1) = co k + (k + 2) / 2 := by
  have h := corner_gap (k + 1) (by omega)
  unfold co
  split at h <;> omega
theorem co_nn (k : Int) : 0 ≤ co k := by
  unfold co
  have : 0 ≤ (k + 1) * (k + 1) := by
    rcases Int.le_total 0 (k + 1) with h | h
    · exact Int.mul_nonneg h h
    · exact Int.mul_nonneg_of_nonpos_of_nonpos h h
  omega
def sx (h : Nat) : Int := if h = 0 then 1 else if h = 2 then -1 else 0
def sy (h : Nat) : Int := if h = 1 then 1 else if h = 3 then -1 else 0
def hq (q : Nat) (r : Bool) (k : Int) : Nat := (((q : Int) + (if r then -k else k)) % 4).toNat
theorem co4 (j c : Int) (hc : c = 0 ∨ c = 1 ∨ c = 2 ∨ c = 3) : co (4 * j + c) = 4 * (j * j) + (2 + 2 * c) * j + (if c = 0 then 0 else if c = 1 then 1 else if c = 2 then 2 else 4) := by
  unfold co
  have e : (4 * j + c + 1) * (4 * j + c + 1) = 16 * (j * j) + 8 * (c + 1) * j + (c + 1) * (c + 1) := by grind
  rw [e]
  rcases hc with rfl | rfl | rfl | rfl <;> simp <;> omega
theorem plain_run {u v k i : Int} (hk : 0 ≤ k) (h : po u v = co k) (h0 : 0 ≤ i) (h1 : i ≤ (k + 2) / 2) :
    po (u + sx (k % 4).toNat * i) (v + sy (k % 4).toNat * i) = co k + i := by
  obtain ⟨j, hj, hc⟩ : ∃ j : Int, 0 ≤ j ∧ (k = 4 * j + 0 ∨ k = 4 * j + 1 ∨ k = 4 * j + 2 ∨ k = 4 * j + 3) := ⟨k / 4, by omega, by omega⟩
  have sq : 4 * j * j = 4 * (j * j) := by grind
  have sq1 : 4 * (j + 1) * (j + 1) = 4 * (j * j) + 8 * j + 4 := by grind
  rcases hc with rfl | rfl | rfl | rfl
  · have e : ((4 * j + 0) % 4).toNat = 0 := by omega
    rw [e, co4 j 0 (by simp)] at *
    obtain ⟨_, p⟩ := po_of (x := -j) (y := -j) (k := j) hj (.inl ⟨rfl, by omega, by omega⟩)
    rw [if_pos rfl] at p
    obtain ⟨rfl, rfl⟩ := po_inj (h.trans (show _ = po (-j) (-j) by rw [p]; simp; omega))
    simp only [sx, sy]
    simp
    rcases Int.lt_or_le i (2 * j + 1) with l | l
    · obtain ⟨_, p⟩ := po_of (x := -j + i) (y := -j) (k := j) hj (.inl ⟨rfl, by omega, by omega⟩)
      rw [p, if_pos rfl]; omega
    · obtain ⟨_, p⟩ := po_of (x := -j + i) (y := -j) (k := j + 1) (by omega) (.inr (.inr (.inr ⟨by omega, by omega, by omega⟩)))
      rw [p, if_neg (by omega), if_neg (by omega), if_neg (by omega)]; omega
  · have e : ((4 * j + 1) % 4).toNat = 1 := by omega
    rw [e, co4 j 1 (by simp)] at *
    obtain ⟨_, p⟩ := po_of (x := j + 1) (y := -j) (k := j + 1) (by omega) (.inr (.inr (.inr ⟨rfl, by omega, by omega⟩)))
    rw [if_neg (by omega), if_neg (by omega), if_neg (by omega)] at p
    obtain ⟨rfl, rfl⟩ := po_inj (h.trans (show _ = po (j + 1) (-j) by rw [p]; simp; omega))
    simp only [sx, sy]
    simp
    rcases Int.lt_or_le (-j + i) (j + 1) with l | l
    · obtain ⟨_, p⟩ := po_of (x := j + 1) (y := -j + i) (k := j + 1) (by omega) (.inr (.inr (.inr ⟨rfl, by omega, by omega⟩)))
      rw [p, if_neg (by omega), if_neg (by omega), if_neg (by omega)]; omega
    · obtain ⟨_, p⟩ := po_of (x := j + 1) (y := -j + i) (k := j + 1) (by omega) (.inr (.inr (.inl ⟨by omega, by omega, by omega⟩)))
      rw [p, if_neg (by omega), if_neg (by omega), if_pos (by omega)]; omega
  · have e : ((4 * j + 2) % 4).toNat = 2 := by omega
    rw [e, co4 j 2 (by simp)] at *
    obtain ⟨_, p⟩ := po_of (x := j + 1) (y := j + 1) (k := j + 1) (by omega) (.inr (.inr (.inl ⟨rfl, by omega, by omega⟩)))
    rw [if_neg (by omega), if_neg (by omega), if_pos (by omega)] at p
    obtain ⟨rfl, rfl⟩ := po_inj (h.trans (show _ = po (j + 1) (j + 1) by rw [p]; simp; omega))
    simp only [sx, sy]
    simp
    rcases Int.lt_or_le (-(j + 1)) (j + 1 + -i) with l | l
    · obtain ⟨_, p⟩ := po_of (x := j + 1 + -i) (y := j + 1) (k := j + 1) (by omega) (.inr (.inr (.inl ⟨rfl, by omega, by omega⟩)))
      rw [p, if_neg (by omega), if_neg (by omega), if_pos (by omega)]; omega
    · obtain ⟨_, p⟩ := po_of (x := j + 1 + -i) (y := j + 1) (k := j + 1) (by omega) (.inr (.inl ⟨by omega, by omega, by omega⟩))
      rw [p, if_neg (by omega), if_pos (by omega)]; omega
  · have e : ((4 * j + 3) % 4).toNat = 3 := by omega
    rw [e, co4 j 3 (by simp)] at *
    obtain ⟨_, p⟩ := po_of (x := -(j + 1)) (y := j + 1) (k := j + 1) (by omega) (.inr (.inl ⟨rfl, by omega, by omega⟩))
    rw [if_neg (by omega), if_pos (by omega)] at p
    obtain ⟨rfl, rfl⟩ := po_inj (h.trans (show _ = po (-(j + 1)) (j + 1) by rw [p]; simp; omega))
    simp only [sx, sy]
    simp
    rcases Int.lt_or_le (-(j + 1)) (j + 1 + -i) with l | l
    · obtain ⟨_, p⟩ := po_of (x := -(j + 1)) (y := j + 1 + -i) (k := j + 1) (by omega) (.inr (.inl ⟨by omega, by omega, by omega⟩))
      rw [p, if_neg (by omega), if_pos (by omega)]; omega
    · obtain ⟨_, p⟩ := po_of (x := -(j + 1)) (y := j + 1 + -i) (k := j + 1) (by omega) (.inl ⟨by omega, by omega, by omega⟩)
      rw [p, if_pos (by omega)]; omega
theorem tp_step {q : Nat} (hq4 : q < 4) (r : Bool) (x y k i : Int) :
    tpx q r (x + sx (hq q r k) * i) (y + sy (hq q r k) * i) = tpx q r x y + sx (k % 4).toNat * i ∧ tpy q r (x + sx (hq q r k) * i) (y + sy (hq q r k) * i) = tpy q r x y + sy (k % 4).toNat * i := by
  obtain ⟨c, hc, h1⟩ : ∃ c : Nat, (k % 4).toNat = c ∧ (c = 0 ∨ c = 1 ∨ c = 2 ∨ c = 3) := ⟨(k % 4).toNat, rfl, by omega⟩
  have h2 : hq q r k = (if r then (q + 4 - c) % 4 else (q + c) % 4) := by
    unfold hq
    cases r <;> simp <;> omega
  rw [h2, hc]
  rcases (show q = 0 ∨ q = 1 ∨ q = 2 ∨ q = 3 by omega) with rfl | rfl | rfl | rfl <;> rcases h1 with rfl | rfl | rfl | rfl <;> cases r <;> simp [tpx, tpy, rotx, roty, mir, sx, sy] <;> omega
theorem at_run {q : Nat} (hq4 : q < 4) {r : Bool} {x y k i : Int} (hk : 0 ≤ k) (h : at' q r x y = co k) (h0 : 0 ≤ i) (h1 : i ≤ (k + 2) / 2) :
    at' q r (x + sx (hq q r k) * i) (y + sy (hq q r k) * i) = co k + i := by
  unfold at' at h ⊢
  obtain ⟨e1, e2⟩ := tp_step hq4 r x y k i
  rw [e1, e2]
  exact plain_run hk h h0 h1
end Sp
namespace K
open PySem L2 DL Sp
def F_law : FD := fun ds m Q => ∃ ns : List Int, ds = [.d (.list (ns.map .int))] ∧ ns.length ≤ 63 ∧ ∀ m', Q (.d (.bool true)) m'
theorem mo_law : MoA F_law := fun _ _ _ _ h ⟨ns, e, l, z⟩ => ⟨ns, e, l, fun m' => h _ _ (z m')⟩
theorem eqv_pr (a b c d : Int) : PyData.eqv (.tuple [.int a, .int b]) (.tuple [.int c, .int d]) = (decide (a = c) && decide (b = d)) := by
  simp only [PyData.eqv, PyData.eqvAll, Bool.and_true]
  by_cases h : a = c <;> by_cases h2 : b = d <;> simp [h, h2]
theorem shaped_pr (a b : Int) : SeqAt.shaped (.tuple [.int a, .int b]) = true := rfl
theorem shaped_ints (l : List Int) : SeqAt.shaped (.tuple (l.map .int)) = true := by
  unfold SeqAt.shaped
  have h1 : PyData.canLayAll0 (l.map PyData.int) = true := by
    induction l with
    | nil => rfl
    | cons a t ih => simp [PyData.canLayAll0, PyData.canLay0, ih]
  have h2 : PyData.depthAll (l.map PyData.int) = 0 := by
    clear h1
    induction l with
    | nil => rfl
    | cons a t ih => simp [PyData.depthAll, PyData.depth, ih]
  simp [PyData.canLay0, PyData.depth, h1, h2]
theorem in4 (x a b c d : Int) : inD (.int x) [.int a, .int b, .int c, .int d] = (decide (a = x) || (decide (b = x) || (decide (c = x) || decide (d = x)))) := by
  simp only [inD, List.any_cons, List.any_nil, eqv_int, Bool.or_false]
theorem flat4 (a b c d : Int) : ([.int a, .int b, .int c, .int d] : List PyData).all flatD = true := rfl
theorem flatI (a : Int) : flatD (.int a) = true := rfl
end K
namespace K
open PySem L2 DL Sp
theorem eqv_tnl (r : Bool) : PyData.eqv (.str (tnS r)) (.str "l") = !r := by cases r <;> decide +kernel
theorem shaped_l : SeqAt.shaped (.str "l") = true := by decide +kernel
end K
namespace K11
open PySem L2 DL Sp K
def DeckB (o : MO) (c : Nat) : Prop := ∃ g x t : Int, o = .lst [I g, I x, I t] ∧ 0 ≤ g ∧ (0 ≤ x ∧ x < 2 ^ 31) ∧ 0 ≤ t ∧ t ≤ c
theorem DeckB.mono {o : MO} {c d : Nat} (h : DeckB o c) (l : c ≤ d) : DeckB o d := by
  obtain ⟨g, x, t, e, h1, h2, h3, h4⟩ := h
  exact ⟨g, x, t, e, h1, h2, h3, by omega⟩
def F__law_deck : FD := fun ds m Q => ∃ ns : List Int, ds = [.d (.list (ns.map .int))] ∧ (ns.length ≤ 63 ∧ bitsOf ns ≤ 2 ^ 20) ∧ ∀ p o, m p = none → DeckB o 0 → Q (.r p) (setM m p o)
def F__law_draw : FD := fun ds m Q => ∃ a many o c, ds = [.r a, I many] ∧ (0 < many ∧ many < 2 ^ 150) ∧ m a = some o ∧ DeckB o c ∧ c < 2 ^ 38 ∧ ∀ r o', 0 ≤ r → r < many → DeckB o' (c + 1) → Q (I r) (setM m a o')
def F__law_wide : FD := fun ds m Q => ∃ a many o c, ds = [.r a, I many] ∧ (0 < many ∧ many < 2 ^ 150) ∧ m a = some o ∧ DeckB o c ∧ c < 2 ^ 37 ∧ ∀ r o', 0 ≤ r → r < many → DeckB o' (c + 3) → Q (I r) (setM m a o')
def F__law_spiral : FD := fun ds m Q => ∃ a o c, ds = [.r a] ∧ m a = some o ∧ DeckB o c ∧ c < 2 ^ 36 ∧ ∀ s q r o', (-(10 ^ 18) ≤ s ∧ s ≤ 10 ^ 18) → q < 4 → DeckB o' (c + 7) → Q (spi s q r) (setM m a o')
def F__law_steps : FD := fun ds m Q => ∃ a o c, ds = [.r a] ∧ m a = some o ∧ DeckB o c ∧ c < 2 ^ 36 ∧ ∀ v o', 0 ≤ v → v < 10 ^ 20 → DeckB o' (c + 11) → Q (I v) (setM m a o')
theorem mo__law_deck : MoA F__law_deck := fun _ _ _ _ h ⟨ns, e, l, z⟩ => ⟨ns, e, l, fun p o h1 h2 => h _ _ (z p o h1 h2)⟩
theorem mo__law_draw : MoA F__law_draw := fun _ _ _ _ h ⟨a, mm, o, c, e, l, h1, h2, h3, z⟩ => ⟨a, mm, o, c, e, l, h1, h2, h3, fun r o' a b d => h _ _ (z r o' a b d)⟩
theorem mo__law_wide : MoA F__law_wide := fun _ _ _ _ h ⟨a, mm, o, c, e, l, h1, h2, h3, z⟩ => ⟨a, mm, o, c, e, l, h1, h2, h3, fun r o' a b d => h _ _ (z r o' a b d)⟩
theorem mo__law_spiral : MoA F__law_spiral := fun _ _ _ _ h ⟨a, o, c, e, h1, h2, h3, z⟩ => ⟨a, o, c, e, h1, h2, h3, fun s q r o' a b d => h _ _ (z s q r o' a b d)⟩
theorem mo__law_steps : MoA F__law_steps := fun _ _ _ _ h ⟨a, o, c, e, h1, h2, h3, z⟩ => ⟨a, o, c, e, h1, h2, h3, fun r o' a b d => h _ _ (z r o' a b d)⟩
def T (b : Bool) : Dv := .d (.bool b)
def F_law : FD := fun ds m Q => ∃ ns : List Int, ds = [.d (.list (ns.map .int))] ∧ (ns.length ≤ 63 ∧ bitsOf ns ≤ 2 ^ 20) ∧ ∀ m', Q (.d (.bool true)) m'
theorem mo_law : MoA F_law := fun _ _ _ _ h ⟨ns, e, l, z⟩ => ⟨ns, e, l, fun m' => h _ _ (z m')⟩
theorem bits_lt (i : Int) : i.natAbs < 2 ^ Builtin.Int.intBits i := by
  unfold Builtin.Int.intBits
  by_cases h : i = 0
  · subst h; decide
  · rw [if_neg (by simpa using h)]; exact Nat.lt_log2_self
theorem bits_le {i : Int} {k : Nat} (h : i.natAbs < 2 ^ k) : Builtin.Int.intBits i ≤ k := by
  unfold Builtin.Int.intBits
  by_cases h0 : i = 0
  · subst h0; simp
  · rw [if_neg (by simpa using h0)]
    have := (Nat.log2_lt (by omega : i.natAbs ≠ 0)).mpr h
    omega
theorem growD (d : Nat) {g c : Int} {A B : Nat} (h0 : 0 ≤ g) (hg : g.natAbs < 2 ^ A) (hc : c.natAbs < 2 ^ B) : (g * 2 ^ d + absI c).natAbs < 2 ^ (A + (d + 1) + B) ∧ 0 ≤ g * 2 ^ d + absI c := by
  obtain ⟨a, rfl⟩ : ∃ a : Nat, g = a := ⟨g.toNat, by omega⟩
  obtain ⟨b, eb⟩ : ∃ b : Nat, absI c = (b : Int) := ⟨c.natAbs, by unfold absI; split <;> omega⟩
  have hb : b < 2 ^ B := by
    have : (b : Int) = c.natAbs := by rw [← eb]; unfold absI; split <;> omega
    omega
  rw [eb]
  have ha : a < 2 ^ A := by simpa using hg
  have e : ((a : Int) * 2 ^ d + (b : Int)) = ((a * 2 ^ d + b : Nat) : Int) := by simp
  rw [e]
  refine ⟨?_, by omega⟩
  rw [Int.natAbs_natCast]
  have p0 : 0 < 2 ^ d := Nat.two_pow_pos d
  have h1 : a * 2 ^ d < 2 ^ A * 2 ^ d := Nat.mul_lt_mul_of_pos_right ha p0
  have h2 : 2 ^ A * 2 ^ d ≤ 2 ^ (A + d + B) := by rw [← Nat.pow_add]; exact Nat.pow_le_pow_right (by decide) (by omega)
  have h3 : 2 ^ B ≤ 2 ^ (A + d + B) := Nat.pow_le_pow_right (by decide) (by omega)
  have h4 : 2 ^ (A + (d + 1) + B) = 2 ^ (A + d + B) + 2 ^ (A + d + B) := by rw [show A + (d + 1) + B = (A + d + B) + 1 by omega, Nat.pow_succ]; omega
  rw [h4]
  exact Nat.add_lt_add_of_lt_of_le (Nat.lt_of_lt_of_le h1 h2) (Nat.le_of_lt (Nat.lt_of_lt_of_le hb h3))
theorem cut63 {ns : List Int} (l : ns.length ≤ 63) : cutD (List.map PyData.int ns) none (some 63) = List.map PyData.int ns := by
  unfold cutD
  simp only [HT.sIx, List.drop_zero, List.length_map, Nat.sub_zero]
  rw [if_neg (by decide)]
  exact List.take_of_length_le (by rw [List.length_map]; show ns.length ≤ min (Int.toNat 63) ns.length; have : (Int.toNat 63) = 63 := rfl; omega)
theorem bits_take : ∀ (ns : List Int) (i : Nat) (c : Int), ns[i]? = some c → bitsOf (ns.take (i + 1)) = bitsOf (ns.take i) + (Builtin.Int.intBits c + 1)
  | [], i, c, h => by simp at h
  | n :: r, 0, c, h => by simp at h; subst h; simp [bitsOf]
  | n :: r, i + 1, c, h => by
    have := bits_take r i c (by simpa using h)
    simp only [List.take_succ_cons, bitsOf]
    omega
theorem bits_take_le : ∀ (ns : List Int) (i : Nat), bitsOf (ns.take i) ≤ bitsOf ns
  | [], i => by simp
  | n :: r, 0 => by simp [bitsOf]
  | n :: r, i + 1 => by
    have := bits_take_le r i
    simp only [List.take_succ_cons, bitsOf]
    omega
theorem deck_up {g c : Int} {A B E : Nat} (h0 : 0 ≤ g) (hg : g.natAbs < 2 ^ A) (hc : Builtin.Int.intBits c ≤ B) (hE : A + 206 + B ≤ E) : (g * 2 ^ (205 : Int).toNat + absI c).natAbs < 2 ^ E ∧ 0 ≤ g * 2 ^ (205 : Int).toNat + absI c := by
  have hc' : c.natAbs < 2 ^ B := Nat.lt_of_lt_of_le (bits_lt c) (Nat.pow_le_pow_right (by decide) hc)
  obtain ⟨a, b⟩ := growD (205 : Int).toNat h0 hg hc'
  exact ⟨Nat.lt_of_lt_of_le a (Nat.pow_le_pow_right (by decide) hE), b⟩
def DkInv (ns : List Int) (m : M) (i : Nat) (δ : Dn) (m' : M) : Prop := ∃ (g x : Int) (k : Option Dv), δ = [some (.d (.list (ns.map .int))), some (I g), some (I x), k] ∧ m' = m ∧ 0 ≤ g ∧ g.natAbs < 2 ^ (206 * i + bitsOf (ns.take i)) ∧ 0 ≤ x ∧ x < 2 ^ 31
theorem e205 : (2 : Int) ^ (205 : Int).toNat = 51422017416287688817342786954917203280710495801049370729644032 := by decide +kernel
theorem at_memD {ns : List Int} {r : Int} (h0 : 0 ≤ r) (h1 : r < ns.length) : ∃ v ∈ ns, atI (ns.map fun i => I i) r = some (I v) := by
  have hlt : r.toNat < ns.length := by omega
  exact ⟨ns[r.toNat], List.getElem_mem hlt, atI_of (k := r.toNat) (by omega) (by rw [List.getElem?_map, List.getElem?_eq_getElem hlt]; rfl)⟩
end K11
namespace K11
open PySem L2 DL Sp K
theorem gs_hd {h : Nat} {m : M} {Q : QD} (hh : h < 4) (q : Q (I (h : Nat)) m) : gSIndex (.d (.str "enws")) (.d (.str (hdS h))) m Q := by
  rcases (show h = 0 ∨ h = 1 ∨ h = 2 ∨ h = 3 by omega) with rfl | rfl | rfl | rfl
  · exact ⟨0, [], by decide +kernel, q⟩
  · exact ⟨1, [], by decide +kernel, q⟩
  · exact ⟨2, [], by decide +kernel, q⟩
  · exact ⟨3, [], by decide +kernel, q⟩
theorem eqv_same {x : PyData} : ∀ (h : SeqAt.shaped x = true), PyData.eqv x x = true := fun h => SeqAt.eqv_refl x (Bool.and_eq_true_iff.mp h).1
end K11
namespace K11
open PySem L2 DL Sp K
end K11
set_option maxHeartbeats 1000000
namespace Sp
def Btw (a b c d u : Int) : Prop := (a ≤ u ∨ b ≤ u ∨ c ≤ u ∨ d ≤ u) ∧ (u ≤ a ∨ u ≤ b ∨ u ≤ c ∨ u ≤ d)
structure IsBx (q : Nat) (r : Bool) (n l b t h : Int) : Prop where
  all : ∀ x y, at' q r x y ≤ n → l ≤ x ∧ x ≤ t ∧ b ≤ y ∧ y ≤ h
  al : ∃ y, at' q r l y ≤ n
  ab : ∃ x, at' q r x b ≤ n
  at_ : ∃ y, at' q r t y ≤ n
  ah : ∃ x, at' q r x h ≤ n
theorem IsBx.uniq {q : Nat} {r : Bool} {n l b t h l' b' t' h' : Int} (x : IsBx q r n l b t h) (y : IsBx q r n l' b' t' h') : l = l' ∧ b = b' ∧ t = t' ∧ h = h' := by
  obtain ⟨a1, h1⟩ := x.al; obtain ⟨a2, h2⟩ := x.ab; obtain ⟨a3, h3⟩ := x.at_; obtain ⟨a4, h4⟩ := x.ah
  obtain ⟨b1, k1⟩ := y.al; obtain ⟨b2, k2⟩ := y.ab; obtain ⟨b3, k3⟩ := y.at_; obtain ⟨b4, k4⟩ := y.ah
  have p1 := y.all _ _ h1; have p2 := y.all _ _ h2; have p3 := y.all _ _ h3; have p4 := y.all _ _ h4
  have q1 := x.all _ _ k1; have q2 := x.all _ _ k2; have q3 := x.all _ _ k3; have q4 := x.all _ _ k4
  omega
theorem IsBx.zero {q : Nat} (hq : q < 4) (r : Bool) : IsBx q r 0 0 0 0 0 := by
  have e : at' q r 0 0 = 0 := by
    unfold at'
    have : tpx q r 0 0 = 0 ∧ tpy q r 0 0 = 0 := by
      rcases (show q = 0 ∨ q = 1 ∨ q = 2 ∨ q = 3 by omega) with rfl | rfl | rfl | rfl <;> cases r <;> simp [tpx, tpy, rotx, roty, mir]
    rw [this.1, this.2]; decide
  refine ⟨fun x y h => ?_, ⟨0, by omega⟩, ⟨0, by omega⟩, ⟨0, by omega⟩, ⟨0, by omega⟩⟩
  have h0 := at_nonneg q r x y
  obtain ⟨rfl, rfl⟩ := at_inj hq (r := r) (show at' q r x y = at' q r 0 0 by omega)
  omega
theorem IsBx.step {q : Nat} (hq : q < 4) {r : Bool} {n l b t h x y l' b' t' h' : Int} (B : IsBx q r n l b t h) (e : at' q r x y = n + 1)
    (el : l' = if x < l then x else l) (eb : b' = if y < b then y else b) (et : t' = if x > t then x else t) (eh : h' = if y > h then y else h) : IsBx q r (n + 1) l' b' t' h' := by
  obtain ⟨a1, h1⟩ := B.al; obtain ⟨a2, h2⟩ := B.ab; obtain ⟨a3, h3⟩ := B.at_; obtain ⟨a4, h4⟩ := B.ah
  refine ⟨fun u v huv => ?_, ?_, ?_, ?_, ?_⟩
  · rcases Int.lt_or_le n (at' q r u v) with g | g
    · obtain ⟨rfl, rfl⟩ := at_inj hq (r := r) (show at' q r u v = at' q r x y by omega)
      subst el eb et eh
      repeat' split
      all_goals omega
    · have := B.all _ _ g
      subst el eb et eh
      repeat' split
      all_goals omega
  · subst el; split
    · exact ⟨y, by omega⟩
    · exact ⟨a1, by omega⟩
  · subst eb; split
    · exact ⟨x, by omega⟩
    · exact ⟨a2, by omega⟩
  · subst et; split
    · exact ⟨y, by omega⟩
    · exact ⟨a3, by omega⟩
  · subst eh; split
    · exact ⟨x, by omega⟩
    · exact ⟨a4, by omega⟩
theorem Btw.neg {a b c d u : Int} (h : Btw a b c d u) : Btw (-a) (-b) (-c) (-d) (-u) := by unfold Btw at *; omega
end Sp
namespace Sp
theorem po_ex : ∀ n : Nat, ∃ x y, po x y = (n : Nat)
  | 0 => ⟨0, 0, by decide⟩
  | n + 1 => by
    obtain ⟨x, y, h⟩ := po_ex n
    rcases (beside x y).1 with e | e | e | e
    · exact ⟨_, _, by rw [e, h]; omega⟩
    · exact ⟨_, _, by rw [e, h]; omega⟩
    · exact ⟨_, _, by rw [e, h]; omega⟩
    · exact ⟨_, _, by rw [e, h]; omega⟩
theorem at_ex {q : Nat} (hq : q < 4) (r : Bool) {n : Int} (h : 0 ≤ n) : ∃ p : Int × Int, at' q r p.1 p.2 = n := by
  obtain ⟨x, y, e⟩ := po_ex n.toNat
  exact ⟨(fpx q r x y, fpy q r x y), by rw [at_fp hq, e]; omega⟩
open Classical in
noncomputable def plc (q : Nat) (r : Bool) (n : Int) : Int × Int := if h : ∃ p : Int × Int, at' q r p.1 p.2 = n then choose h else (0, 0)
noncomputable def px (q : Nat) (r : Bool) (n : Int) : Int := (plc q r n).1
noncomputable def py (q : Nat) (r : Bool) (n : Int) : Int := (plc q r n).2
theorem pl_at {q : Nat} (hq : q < 4) (r : Bool) {n : Int} (h : 0 ≤ n) : at' q r (px q r n) (py q r n) = n := by
  unfold px py plc
  rw [dif_pos (at_ex hq r h)]
  exact Classical.choose_spec (at_ex hq r h)
theorem pl_eq {q : Nat} (hq : q < 4) {r : Bool} {x y n : Int} (h : at' q r x y = n) : x = px q r n ∧ y = py q r n := by
  have h0 := at_nonneg q r x y
  exact at_inj hq (r := r) (h.trans (pl_at hq r (by omega)).symm)
end Sp
namespace K
open PySem L2 DL Sp
abbrev prD (x y : Int) : PyData := .tuple [.int x, .int y]
end K
namespace K18
open PySem L2 DL Sp K
def SeedB (o : MO) (c : Nat) : Prop := ∃ g f t x : Int, o = .lst [I g, I f, I t, I x] ∧ 0 ≤ g ∧ (0 ≤ x ∧ x < 2 ^ 31) ∧ 0 ≤ t ∧ t ≤ c
theorem SeedB.mono {o : MO} {c d : Nat} (h : SeedB o c) (l : c ≤ d) : SeedB o d := by
  obtain ⟨g, f, t, x, e, h1, h2, h3, h4⟩ := h
  exact ⟨g, f, t, x, e, h1, h2, h3, by omega⟩
def hds (q : Nat) (r : Bool) : Str := if q = 0 then (if r then "eswn" else "enws") else if q = 1 then (if r then "nesw" else "nwse") else if q = 2 then (if r then "wnes" else "wsen") else (if r then "swne" else "senw")
def F__law_draw : FD := fun ds m Q => ∃ a many o c, ds = [.r a, I many] ∧ (0 < many ∧ many < 2 ^ 150) ∧ m a = some o ∧ SeedB o c ∧ c < 2 ^ 38 ∧ ∀ r o', 0 ≤ r → r < many → SeedB o' (c + 1) → Q (I r) (setM m a o')
def F__law_spiral : FD := fun ds m Q => ∃ a o c, ds = [.r a] ∧ m a = some o ∧ SeedB o c ∧ c < 2 ^ 36 ∧ ∀ s q r o', (-(10 ^ 18) ≤ s ∧ s ≤ 10 ^ 18) → q < 4 → SeedB o' (c + 7) → Q (spi s q r) (setM m a o')
noncomputable def laidD (q : Nat) (r : Bool) (n : Nat) : List PyData := (List.range n).map fun i => prD (px q r (i : Nat)) (py q r (i : Nat))
def F__law_place : FD := fun ds m Q => ∃ s q r n, ds = [spi s q r, I n] ∧ q < 4 ∧ (0 ≤ n ∧ n < 2 ^ 62) ∧ Q (pr (px q r n) (py q r n)) m
def F_law : FD := fun ds m Q => ∃ ns : List Int, ds = [.d (.list (ns.map .int))] ∧ ns.length ≤ 63 ∧ ∀ m', Q (.d (.bool true)) m'
theorem mo__law_draw : MoA F__law_draw := fun _ _ _ _ h ⟨a, mm, o, c, e, l, h1, h2, h3, z⟩ => ⟨a, mm, o, c, e, l, h1, h2, h3, fun r o' a b d => h _ _ (z r o' a b d)⟩
theorem mo__law_spiral : MoA F__law_spiral := fun _ _ _ _ h ⟨a, o, c, e, h1, h2, h3, z⟩ => ⟨a, o, c, e, h1, h2, h3, fun s q r o' a b d => h _ _ (z s q r o' a b d)⟩
theorem mo__law_place : MoA F__law_place := fun _ _ _ _ h ⟨s, q, r, n, e, l, b, z⟩ => ⟨s, q, r, n, e, l, b, h _ _ z⟩
theorem mo_law : MoA F_law := fun _ _ _ _ h ⟨ns, e, l, z⟩ => ⟨ns, e, l, fun m' => h _ _ (z m')⟩
end K18
namespace K
open PySem L2 DL Sp
theorem sub_new {m : M} {p : Addr} {o : MO} (h : m p = none) : SubM m (setM m p o) := fun b q hb => by
  rw [setM_ne (fun e => by rw [e, h] at hb; cases hb)]; exact hb
end K
namespace K18
open PySem L2 DL Sp K
theorem pl0 {q : Nat} (hq : q < 4) (r : Bool) : px q r 0 = 0 ∧ py q r 0 = 0 := by
  have e : at' q r 0 0 = 0 := by
    unfold at'
    have : tpx q r 0 0 = 0 ∧ tpy q r 0 0 = 0 := by
      rcases (show q = 0 ∨ q = 1 ∨ q = 2 ∨ q = 3 by omega) with rfl | rfl | rfl | rfl <;> cases r <;> simp [tpx, tpy, rotx, roty, mir]
    rw [this.1, this.2]; decide
  obtain ⟨a, b⟩ := pl_eq hq e
  exact ⟨a.symm, b.symm⟩
theorem laid_len (q : Nat) (r : Bool) (n : Nat) : (laidD q r n).length = n := by unfold laidD; rw [List.length_map, List.length_range]
theorem laid1 {q : Nat} (hq : q < 4) (r : Bool) : laidD q r 1 = [prD 0 0] := by
  obtain ⟨a, b⟩ := pl0 hq r
  show [prD (px q r ((0 : Nat) : Int)) (py q r ((0 : Nat) : Int))] = _
  rw [show ((0 : Nat) : Int) = 0 from rfl, a, b]
theorem laid_succ (q : Nat) (r : Bool) (n : Nat) : laidD q r (n + 1) = laidD q r n ++ [prD (px q r (n : Nat)) (py q r (n : Nat))] := by
  unfold laidD; rw [List.range_succ, List.map_append]; rfl
theorem pl_step {q : Nat} (hq4 : q < 4) {r : Bool} {k n : Int} (hk : 0 ≤ k) (h1 : co k ≤ n) (h2 : n < co (k + 1)) : px q r (n + 1) = px q r n + sx (hq q r k) ∧ py q r (n + 1) = py q r n + sy (hq q r k) := by
  have st := co_step hk
  have c0 := pl_at hq4 r (co_nn k)
  have e1 := at_run hq4 (r := r) (i := n - co k) hk c0 (by omega) (by omega)
  have e2 := at_run hq4 (r := r) (i := n + 1 - co k) hk c0 (by omega) (by omega)
  obtain ⟨a, b⟩ := pl_eq hq4 (n := n) (by rw [e1]; omega)
  obtain ⟨c, d⟩ := pl_eq hq4 (n := n + 1) (by rw [e2]; omega)
  rw [← a, ← b, ← c, ← d]
  generalize sx (hq q r k) = u
  generalize sy (hq q r k) = v
  constructor <;> grind
noncomputable def laidL (q : Nat) (r : Bool) (n : Nat) : List Dv := (laidD q r n).map Dv.d
theorem isT_ib : isT "int" "bool" = false := by decide
theorem isT_ii : isT "int" "int" = true := by decide
theorem isT_tt : isT "tuple" "tuple" = true := by decide
theorem laidL_len (q : Nat) (r : Bool) (n : Nat) : (laidL q r n).length = n := by unfold laidL; rw [List.length_map, laid_len]
theorem laidL1 {q : Nat} (hq : q < 4) (r : Bool) : laidL q r 1 = [pr 0 0] := by unfold laidL; rw [laid1 hq]; rfl
theorem laidL_succ (q : Nat) (r : Bool) (n : Nat) : laidL q r (n + 1) = laidL q r n ++ [pr (px q r (n : Nat)) (py q r (n : Nat))] := by
  unfold laidL; rw [laid_succ, List.map_append]; rfl
theorem atI_last {α : Type} (xs : List α) (a : α) : atI (xs ++ [a]) (-1) = some a := by
  unfold atI ixN
  rw [if_neg (by decide)]
  simp only [List.length_append, List.length_cons, List.length_nil]
  rw [if_pos (by omega)]
  rw [show (-1 + ((xs.length + (0 + 1) : Nat) : Int)).toNat = xs.length by omega]
  simp
theorem last_laid (q : Nat) (r : Bool) (n : Nat) : atI (laidL q r (n + 1)) (-1) = some (pr (px q r (n : Nat)) (py q r (n : Nat))) := by rw [laidL_succ]; exact atI_last _ _
theorem cut_take (xs : List PyData) (n : Int) (h0 : 0 ≤ n) (h : n ≤ xs.length) : cutD xs none (some n) = xs.take n.toNat := by
  unfold cutD
  simp only [HT.sIx, List.drop_zero, Nat.sub_zero]
  rw [if_neg (by omega)]
  congr 1
  omega
theorem cut_laid (q : Nat) (r : Bool) {N : Nat} {n : Int} (h0 : 0 ≤ n) (h : n ≤ N) : cutD (laidD q r N) none (some n) = laidD q r n.toNat := by
  rw [cut_take _ _ h0 (by rw [laid_len]; exact h)]
  unfold laidD
  rw [← List.map_take, List.take_range, Nat.min_eq_left (by omega)]
end K18
namespace DL
open PySem PySem.Spec PyProof.Rows L2
section
variable {X : Cx}
variable {elt iter iter1 : Expr} {scope : Scope} {pos ppos ppos1 : Pos} {w w1 : TId} {te : TD} {x y : Str} {i j : Nat}
end
end DL
namespace DL
open PySem PySem.Spec PyProof.Rows L2
section
variable {X : Cx} {e : Expr} {t : TAd} {pos : Pos}
def gListM : RAD
  | [.d (.list xs)], m, Q => ∀ p, m p = none → Q (.r p) (setM m p (.lst (xs.map .d)))
  | [.d (.tuple xs)], m, Q => ∀ p, m p = none → Q (.r p) (setM m p (.lst (xs.map .d)))
  | _, _, _ => False
def gTupleM : RAD
  | [.r a], m, Q => ∃ xs, m a = some (.lst (xs.map .d)) ∧ Q (.d (.tuple xs)) m
  | _, _, _ => False
theorem oA_tupleM {K : PySem.W.Frag} : OpA K (fun xs H Q => ∃ p ys, xs = [.ref p] ∧ ((SqL K H p ys ∧ ∀ l, H l = none → Q (.ref l) (upd H l (.tup ys))) ∨ (SqT K H p ys ∧ Q (.ref p) H))) gTupleM := by
  refine ⟨fun x m Q Q' h q => ?_, fun H I0 I m xs vs Q ok s hx q => ?_⟩
  · unfold gTupleM at q ⊢
    split at q
    · obtain ⟨xs, e, q⟩ := q; exact ⟨xs, e, h _ _ q⟩
    · exact q.elim
  · unfold gTupleM at q
    split at q
    · obtain ⟨v, rfl, hv⟩ := isAll1 hx
      obtain ⟨xs, e, q⟩ := q
      have hv : v = .ref _ := hv
      subst hv
      obtain ⟨ws, hw, al⟩ := ok.lst e
      exact ⟨_, _, rfl, .inl ⟨SqL.of hw, fun l hl => qd_newT ok s hl (dpAll_of al) q⟩⟩
    · exact q.elim
theorem de_tupleM {p : Pos} (hg : Gl X "tuple") (hm : X.mg "tuple" = none) (ha : DA X [e] t) (he : starEach [e] X.env = [(false, eval e X.env)] := by rfl) : DE X (.Call (.Name "tuple" p) [e] [] pos) (dCB gTupleM t) :=
  de_callTy call_tuple_of oA_tupleM hg hm (by decide +kernel) ha (he := he)
end
end DL
namespace DL
open PySem PySem.Spec PyProof.Rows L2
section
variable {X : Cx} {a b c : Expr} {t : TAd} {pos pt pt2 px py pz : Pos} {kt k2} {i j k : Nat} {x y z : Str}
def sPar (i j : Nat) (t : TAd) : TSd := fun D δ m => t δ m fun ds m1 => ∃ v w, ds = [v, w] ∧ D.nx ((δ.set i (some v)).set j (some w)) m1
theorem ds_par (hc : X.calm = true) (hN : X.N.Nodup) (hi : X.N[i]? = some x) (hj : X.N[j]? = some y) (hij : i ≠ j)
    (hx : X.env.scope.names.lookup x = some .local) (hy : X.env.scope.names.lookup y = some .local) (ha : DA X [a, b] t)
    (hw : swappedStores [.Tuple [.Name x px, .Name y py] kt pt] (.Tuple [a, b] k2 pt2) X.env = pure (some [x, y]))
    (hs : swapsWithSole [.Tuple [.Name x px, .Name y py] kt pt] (.Tuple [a, b] k2 pt2) pos.line X.env = pure false := by rfl) :
    DS X (.Assign [.Tuple [.Name x px, .Name y py] kt pt] (.Tuple [a, b] k2 pt2) pos) (sPar i j t) := by
  refine ds_of (ps_par hc hN hi hj hij hx hy ha.pa hw hs) (fun D D' δ m l q => ha.mono δ m _ _ (fun ds m1 ⟨v, w, e, z⟩ => ⟨v, w, e, l.nx _ _ z⟩) q) fun σ H I δ m D ok rl q => ?_
  refine ⟨I, δ, m, ok, rl, ha.mono δ m _ _ (fun ds m1 ⟨v, w, e, q1⟩ vs H1 I1 s1 o1 al => ?_) q⟩
  subst e
  obtain ⟨v', w', rfl, h1, h2⟩ := isAll2 al
  exact ⟨v', w', rfl, q1 _ H1 I1 s1 o1 (((rl.same s1).set i h1).set j h2)⟩
end
end DL
namespace DL
open PySem PySem.Spec PyProof.Rows L2
section
variable {X : Cx} {pos : Pos}
end
section
variable {X : Cx} {e : Expr} {t : TAd} {pos : Pos}
end
end DL
namespace DL
open PySem PySem.Spec PyProof.Rows L2
abbrev KI (K : PySem.W.Frag) (I : Hp) : List (List Int × Dv) → List (List Key × Addr × Value) → Prop :=
  Paired fun p q => q.1 = p.1.map Sum.inl ∧ SqT K I q.2.1 (p.1.map V.int) ∧ ∃ v, RelV v q.2.2 ∧ Is K I v p.2
theorem KI.same {K : PySem.W.Frag} {I I' : Hp} (e : Same I I') {kvs : List (List Int × Dv)} {xs : List (List Key × Addr × Value)} (h : KI K I kvs xs) : KI K I' kvs xs :=
  paired_imp (fun _ _ ⟨a, b, v, c, d⟩ => ⟨a, SqT.same e b, v, c, d.same e⟩) h
def lookL : List (List Int × Dv) → List Int → Option Dv
  | [], _ => none
  | (k, x) :: r, k' => if k = k' then some x else lookL r k'
theorem inl_inj : ∀ {a b : List Int}, a.map (Sum.inl : Int → Key) = b.map Sum.inl → a = b
  | [], [], _ => rfl
  | [], _ :: _, h => by simp at h
  | _ :: _, [], h => by simp at h
  | x :: a, y :: b, h => by
    simp only [List.map_cons, List.cons.injEq, Sum.inl.injEq] at h
    rw [h.1, inl_inj h.2]
theorem KI.get {K : PySem.W.Frag} {I : Hp} {ks : List Int} {x : Dv} : ∀ {kvs : List (List Int × Dv)} {xs : List (List Key × Addr × Value)}, KI K I kvs xs → lookL kvs ks = some x → ∃ p, atKey xs (ks.map Sum.inl) = some p ∧ ∃ v, RelV v p.2 ∧ Is K I v x
  | _, _, .nil, e => by cases e
  | _, _, .cons (a := p) (b := q) h t, e => by
    unfold lookL at e
    by_cases z : p.1 = ks
    · rw [if_pos z] at e; cases e
      exact ⟨q.2, by simp [atKey, List.find?_cons, h.1, z], h.2.2⟩
    · rw [if_neg z] at e
      obtain ⟨p', h1, h2⟩ := KI.get t e
      have n : ¬ q.1 = ks.map Sum.inl := fun y => z (inl_inj (h.1.symm.trans y))
      refine ⟨p', Eq.trans ?_ h1, h2⟩
      simp [atKey, List.find?_cons, n]
theorem KI.new {K : PySem.W.Frag} {I : Hp} {ks : List Int} : ∀ {kvs : List (List Int × Dv)} {xs : List (List Key × Addr × Value)}, KI K I kvs xs → (∀ p ∈ kvs, p.1 ≠ ks) → (∀ q ∈ xs, q.1 ≠ ks.map Sum.inl)
  | _, _, .nil, _ => by simp
  | _, _, .cons (a := p) (b := q) h t, e => by
    intro q' hq
    rcases List.mem_cons.mp hq with rfl | hq
    · exact fun y => e p (by simp) (inl_inj (h.1.symm.trans y))
    · exact KI.new t (fun p' hp => e p' (by simp [hp])) q' hq
theorem keyI {X : Cx} {pins : List (Addr × Obj)} {σ : L2.St} {H : Hp} {s : Shared} (I : Inv X pins σ H s) {b : Addr} {ks : List Int} (h : SqT X.K H b (ks.map V.int)) : (tupleKind (mixKind X.prog X.w)).is s.heap (ks.map Sum.inl) b := by
  obtain ⟨its, r, ⟨o, h1, h2, n, h3⟩, _⟩ := I.tuple h
  have e : ks.map V.int = (ks.map (Sum.inl : Int → Key)).map kV := by rw [List.map_map]; rfl
  rw [e] at r
  exact ⟨o, its.toArray, n, h1, h2, h3, by simpa using items_are r⟩
theorem KI.all {X : Cx} {pins : List (Addr × Obj)} {σ : L2.St} {H : Hp} {s : Shared} (I : Inv X pins σ H s) : ∀ {kvs : List (List Int × Dv)} {xs : List (List Key × Addr × Value)}, KI X.K H kvs xs → ∀ x ∈ xs, (tupleKind (mixKind X.prog X.w)).is s.heap x.1 x.2.1
  | _, _, .nil => by simp
  | _, _, .cons (a := p) (b := q) h t => by
    intro x hx
    rcases List.mem_cons.mp hx with rfl | hx
    · rw [h.1]; exact keyI I h.2.1
    · exact KI.all I t x hx
theorem KI.len {K : PySem.W.Frag} {I : Hp} {kvs : List (List Int × Dv)} {xs : List (List Key × Addr × Value)} (h : KI K I kvs xs) : kvs.length = xs.length := paired_len h
section
variable {X : Cx} {pos : Pos}
end
end DL
namespace DL
open PySem PySem.Spec PyProof.Rows L2
section
variable {X : Cx} {e : Expr} {t : TAd} {pos : Pos}
def gListD : RAD
  | [.d (.list xs)], m, Q => Q (.d (.list xs)) m
  | [.d (.tuple xs)], m, Q => Q (.d (.list xs)) m
  | _, _, _ => False
end
end DL
namespace K10
open PySem L2 DL Sp K K11
open K18 (laidD laidL laid_len laidL_len laidL_succ laidL1 last_laid cut_laid pl_step)
def F__law_same0 : FD := fun ds m Q => ∃ x : Int, ds = [I x, I x] ∧ Q (.d (.bool true)) m
def F__law_same : FD := fun ds m Q => ∃ d : PyData, ds = [.d d, .d d] ∧ ((∃ x : Int, d = .int x) ∨ ∃ ns : List Int, ns.length ≤ 2 ^ 20 ∧ d = .tuple (ns.map .int)) ∧ Q (.d (.bool true)) m
theorem mo__law_same0 : MoA F__law_same0 := fun _ _ _ _ h ⟨x, e, z⟩ => ⟨x, e, h _ _ z⟩
theorem mo__law_same : MoA F__law_same := fun _ _ _ _ h ⟨d, e, c, z⟩ => ⟨d, e, c, h _ _ z⟩
def F__law_number : FD := fun ds m Q => ∃ s q r x y, ds = [spi s q r, pr x y] ∧ q < 4 ∧ (-(2 ^ 60) < x ∧ x < 2 ^ 60 ∧ -(2 ^ 60) < y ∧ y < 2 ^ 60) ∧ Q (I (s + at' q r x y)) m
theorem mo__law_number : MoA F__law_number := fun _ _ _ _ h ⟨s, q, r, x, y, e, l, b, z⟩ => ⟨s, q, r, x, y, e, l, b, h _ _ z⟩
def F_law : FD := fun ds m Q => ∃ ns : List Int, ds = [.d (.list (ns.map .int))] ∧ (ns.length ≤ 63 ∧ bitsOf ns ≤ 2 ^ 20) ∧ ∀ m', Q (.d (.bool true)) m'
theorem mo_law : MoA F_law := fun _ _ _ _ h ⟨ns, e, l, z⟩ => ⟨ns, e, l, fun m' => h _ _ (z m')⟩
theorem isT_it : isT "int" "tuple" = false := by decide
theorem isT_is : isT "int" "str" = false := by decide
def rotN : Nat → Int → Int → Int × Int
  | 0, x, y => (x, y)
  | n + 1, x, y => ((rotN n x y).2, 0 - (rotN n x y).1)
theorem rot_tp {q : Nat} (hq : q < 4) (r : Bool) (x y : Int) : (rotN q x y).1 = tpx q r x y ∧ (if r = true then 0 - (rotN q x y).2 else (rotN q x y).2) = tpy q r x y := by
  unfold tpx tpy rotx roty mir
  rcases (show q = 0 ∨ q = 1 ∨ q = 2 ∨ q = 3 by omega) with rfl | rfl | rfl | rfl <;> cases r <;> simp [rotN]
theorem po_sides {u v : Int} : (u = ring u v → v ≤ -(ring u v) → False) → True := fun _ => trivial
theorem po_by (s u v R : Int) (hR : R = ring u v) (h0 : R ≠ 0) : s + po u v =
    (if u = R ∧ 0 - R < v then s + (2 * R - 1) * (2 * R - 1) + v + R - 1 else if v = R then s + (2 * R - 1) * (2 * R - 1) + 3 * R - 1 - u else if u = 0 - R then s + (2 * R - 1) * (2 * R - 1) + 5 * R - 1 - v else s + (2 * R - 1) * (2 * R - 1) + 7 * R - 1 + u) := by
  obtain ⟨r0, r1, r2, r3, r4, r5⟩ := ring_cases u v
  unfold po
  rw [← hR] at *
  have e : (2 * R - 1) * (2 * R - 1) = 4 * R * R - 4 * R + 1 := by grind
  rw [e]
  generalize 4 * R * R = W
  repeat' split
  all_goals omega
theorem po_zero {u v : Int} (h : ring u v = 0) : po u v = 0 := by
  obtain ⟨r0, r1, r2, r3, r4, r5⟩ := ring_cases u v
  unfold po
  rw [h] at *
  split <;> omega
open Sp in
noncomputable def kvsN (s : Int) (q : Nat) (r : Bool) (n : Nat) : List (List Int × Dv) := (List.range n).map fun i => ([px q r (i : Nat), py q r (i : Nat)], I (s + (i : Nat)))
theorem kvs_new {s : Int} {q : Nat} (hq : q < 4) {r : Bool} {n : Nat} : ∀ p ∈ kvsN s q r n, p.1 ≠ [px q r (n : Nat), py q r (n : Nat)] := by
  intro p hp e
  unfold kvsN at hp
  obtain ⟨i, hi, rfl⟩ := List.mem_map.mp hp
  simp only [List.cons.injEq, and_true] at e
  have h1 := pl_at hq r (n := (i : Nat)) (by omega)
  have h2 := pl_at hq r (n := (n : Nat)) (by omega)
  rw [e.1, e.2, h2] at h1
  have := List.mem_range.mp hi
  omega
theorem kvs_len (s : Int) (q : Nat) (r : Bool) (n : Nat) : (kvsN s q r n).length = n := by unfold kvsN; rw [List.length_map, List.length_range]
theorem kvs_succ (s : Int) (q : Nat) (r : Bool) (n : Nat) : kvsN s q r (n + 1) = kvsN s q r n ++ [([px q r (n : Nat), py q r (n : Nat)], I (s + (n : Nat)))] := by
  unfold kvsN; rw [List.range_succ, List.map_append]; rfl
theorem look_app : ∀ {xs ys : List (List Int × Dv)} {k : List Int} {v : Dv}, lookL xs k = some v → lookL (xs ++ ys) k = some v
  | [], _, _, _, h => by cases h
  | (k', x) :: xs, ys, k, v, h => by
    show (if k' = k then some x else lookL (xs ++ ys) k) = some v
    unfold lookL at h
    by_cases e : k' = k
    · rw [if_pos e] at h ⊢; exact h
    · rw [if_neg e] at h ⊢; exact look_app h
theorem look_last : ∀ {xs : List (List Int × Dv)} {k : List Int} {v : Dv}, (∀ p ∈ xs, p.1 ≠ k) → lookL (xs ++ [(k, v)]) k = some v
  | [], k, v, _ => by show (if k = k then some v else none) = some v; rw [if_pos rfl]
  | (k', x) :: xs, k, v, h => by
    show (if k' = k then some x else lookL (xs ++ [(k, v)]) k) = some v
    rw [if_neg (h (k', x) (by simp))]
    exact look_last fun p hp => h p (by simp [hp])
theorem look_kvs {s : Int} {q : Nat} (hq : q < 4) {r : Bool} {x y : Int} : ∀ {n : Nat}, at' q r x y < n → lookL (kvsN s q r n) [x, y] = some (I (s + at' q r x y))
  | 0, h => by have := at_nonneg q r x y; omega
  | n + 1, h => by
    rw [kvs_succ]
    by_cases e : at' q r x y = (n : Nat)
    · obtain ⟨e1, e2⟩ := pl_eq hq e
      rw [← e1, ← e2, ← e]
      refine look_last ?_
      have := kvs_new (s := s) hq (r := r) (n := n)
      rw [← e1, ← e2] at this
      exact this
    · exact look_app (look_kvs hq (by omega))
abbrev F__law_deck : FD := K11.F__law_deck
abbrev F__law_draw : FD := K11.F__law_draw
abbrev F__law_wide : FD := K11.F__law_wide
abbrev F__law_spiral : FD := K11.F__law_spiral
theorem mo__law_deck : MoA F__law_deck := K11.mo__law_deck
theorem mo__law_draw : MoA F__law_draw := K11.mo__law_draw
theorem mo__law_wide : MoA F__law_wide := K11.mo__law_wide
theorem mo__law_spiral : MoA F__law_spiral := K11.mo__law_spiral
def forB (xs : List Dv) (still : M → Prop) (g : TGd) (tb : TSd) (D : DEnds) (δ : Dn) (m1 : M) : Prop := ∃ Pv : Nat → Dn → M → Prop, Pv 0 δ m1 ∧ (∀ i δ m, Pv i δ m → still m) ∧
  (∀ i x δ m, xs[i]? = some x → Pv i δ m → g x δ m fun δ2 m2 => tb { D with nx := Pv (i + 1), ct := Pv (i + 1), bk := D.nx } δ2 m2) ∧ ∀ δ m, Pv xs.length δ m → D.nx δ m
theorem for_out {w : TId} {g : TGd} {tb : TSd} {D : DEnds} {δ : Dn} {m : M} (h : w δ m fun xs still m1 => forB xs still g tb D δ m1) : sFor w g tb D δ m := h
theorem forB_its {xs : List Dv} {g : TGd} {tb : TSd} {D : DEnds} {δ : Dn} {m : M} (Pv : Nat → Dn → M → Prop) (h0 : Pv 0 δ m)
    (ht : ∀ i x δ m, xs[i]? = some x → Pv i δ m → g x δ m fun δ2 m2 => tb { D with nx := Pv (i + 1), ct := Pv (i + 1), bk := D.nx } δ2 m2) (hd : ∀ δ m, Pv xs.length δ m → D.nx δ m) : forB xs (fun _ => True) g tb D δ m :=
  ⟨Pv, h0, fun _ _ _ _ => trivial, ht, hd⟩
end K10
namespace DL
open PySem PySem.Spec PyProof.Rows L2
def occ (i j : Str) : Bool := !(Builtin.Str.occurrences j i 0 j.length 1).isEmpty
def gInS : R2D
  | .d (.str i), .d (.str j), m, Q => Q (.d (.bool (occ i j))) m
  | _, _, _, _ => False
section
variable {X : Cx} {a b : Expr} {ta tb : TD} {pos : Pos}
end
end DL
namespace DL
open PySem PySem.Spec PyProof.Rows L2
section
variable {X : Cx} {a b e : Expr} {ta tb te : TD} {pos pos2 : Pos}
def dRep1 (te tb : TD) : TD := fun δ m Q => te δ m fun x m1 => tb δ m1 fun y m2 => ∃ (d : PyData) (k : Int), x = .d d ∧ y = .d (.int k) ∧ k ≤ 16777216 ∧ -(2 ^ 63) ≤ k ∧ Q (.d (.list (List.replicate k.toNat d))) m2
theorem op_catT2 : OpR X (binaryOp .Add) (fun x y H Q => ∃ a b xs ys, x = .ref a ∧ y = .ref b ∧ SqT X.K H a xs ∧ SqT X.K H b ys ∧ xs ≠ [] ∧ ys ≠ [] ∧ xs.length + ys.length ≤ sizeLine ∧ ∀ p, H p = none → Q (.ref p) (upd H p (.tup (xs ++ ys)))) := by
  intro pins s σ H x y v u Q I rx ry h
  obtain ⟨a, b, xs, ys, rfl, rfl, ha, hb, hx, hy, hz, q⟩ := h
  cases rx
  cases ry
  obtain ⟨its, r1, p1, _⟩ := I.tuple ha
  obtain ⟨its2, r2, p2, _⟩ := I.tuple hb
  have l1 := r1.length
  have l2 := r2.length
  refine HT.cat_tup p1 p2 (fun z => hx (by rw [z] at l1; exact List.length_eq_zero_iff.mp l1)) (fun z => absurd (by rw [z] at l2; exact List.length_eq_zero_iff.mp l2) hy) (fun z => ?_) (by omega)
  refine ⟨.ref s.heap.objs.size, upd H s.heap.objs.size (.tup (xs ++ ys)), I.laid (a := s.heap.objs.size) (o := .tup (xs ++ ys)) (t' := s.toks) (fun _ _ e => Heap.get?_push_of_some _ e) (Nat.le_refl _) ⟨by rw [List.length_append]; exact hz, its ++ its2, r1.append r2, ⟨_, Heap.get?_push_size _ rfl, rfl, 0, rfl⟩⟩, rfl, q _ (I.hok.fresh (Nat.le_refl _))⟩
def gAddT : R2D
  | .d (.tuple xs), .d (.tuple ys), m, Q => xs ≠ [] ∧ ys ≠ [] ∧ xs.length + ys.length ≤ 16777216 ∧ Q (.d (.tuple (xs ++ ys))) m
  | _, _, _, _ => False
theorem gAddT_inv {x y : Dv} {m : M} {Q : QD} (h : gAddT x y m Q) : ∃ xs ys, x = .d (.tuple xs) ∧ y = .d (.tuple ys) ∧ xs ≠ [] ∧ ys ≠ [] ∧ xs.length + ys.length ≤ 16777216 ∧ Q (.d (.tuple (xs ++ ys))) m := by
  unfold gAddT at h; split at h
  · exact ⟨_, _, rfl, rfl, h⟩
  · exact h.elim
theorem o2_addT {K : PySem.W.Frag} : Op2 K (fun x y H Q => ∃ a b xs ys, x = .ref a ∧ y = .ref b ∧ SqT K H a xs ∧ SqT K H b ys ∧ xs ≠ [] ∧ ys ≠ [] ∧ xs.length + ys.length ≤ sizeLine ∧ ∀ p, H p = none → Q (.ref p) (upd H p (.tup (xs ++ ys)))) gAddT := by
  refine ⟨fun x y m Q Q' h q => ?_, fun H I0 I m x y v w Q ok s hx hy q => ?_⟩
  · obtain ⟨xs, ys, rfl, rfl, h1, h2, h3, q⟩ := gAddT_inv q
    exact ⟨h1, h2, h3, h _ _ q⟩
  · obtain ⟨xs, ys, rfl, rfl, h1, h2, h3, q⟩ := gAddT_inv q
    cases (show Dp K I v (.tuple xs) from hx) with
    | tup sq al =>
      cases (show Dp K I w (.tuple ys) from hy) with
      | tup sq2 al2 =>
        have l1 := dpAll_len al
        have l2 := dpAll_len al2
        exact ⟨_, _, _, _, rfl, rfl, SqT.same ok.im sq, SqT.same ok.im sq2, fun z => h1 (List.length_eq_zero_iff.mp (by rw [← l1, z]; rfl)), fun z => h2 (List.length_eq_zero_iff.mp (by rw [← l2, z]; rfl)), by rw [sizeLine_eq, l1, l2]; exact h3, fun p hp => qd_newT ok s hp (dpAll_app al al2) q⟩
theorem de_addT (ha : DE X a ta) (hb : DE X b tb) : DE X (.BinOp a .Add b pos) (dOp gAddT ta tb) := de_op op_catT2 o2_addT ha hb
end
end DL
namespace DL
open PySem PySem.Spec PyProof.Rows L2
def FlyAt (h : Heap) (e : Addr) (c : Value) (dx : Option Addr) (T : Option Addr) : Prop :=
  ∃ oe vs, h.get? e = some oe ∧ oe.cls = c ∧ oe.dict = dx ∧ oe.data = .fields vs ∧ 1 < vs.size ∧ (match T with
    | none => vs[1]? = some .none
    | some t => vs[1]? = some (.ref t) ∧ t ≠ e ∧ ∃ oT ts, h.get? t = some oT ∧ oT.data = .fields ts ∧ ts[3]? = some .none)
structure KeepBut (fs : List Addr) (e : Addr) (T : Option Addr) (h h' : Heap) : Prop where
  keep : ∀ b o, b ≠ e → T ≠ some b → b ∉ fs → h.get? b = some o → h'.get? b = some o
  slot : ∀ b o, b ≠ e → T ≠ some b → h.get? b = some o → ∃ sl, h'.get? b = some { o with slots := sl }
section
variable {M : Model} {A : Around} {E : Value → Shared → Prop} {s : Shared}
end
end DL
namespace DL
open PySem PySem.Spec PyProof.Rows L2
structure Flies (k : Nat) (H : Hp) (h : Heap) (e : Addr) (c : Value) (dx : Addr) (od : Obj) (T : Option Addr) : Prop where
  fly : FlyAt h e c (some dx) T
  dict : h.get? dx = some od
  ke : k ≤ e
  kd : k ≤ dx
  kT : ∀ t, T = some t → k ≤ t
  fe : H e = none
  fd : H dx = none
  fT : ∀ t, T = some t → H t = none
  de : dx ≠ e
  dT : T ≠ some dx
section
variable {P : Program} {w : World} {K : PySem.W.Frag} {mg : Str → Option Value} {base : Heap} {N : List Str} {qual : Str} {scope : Scope} {f : Addr} {cd : Value} {A : Around} {outer : List Env} {s : Shared} {H : Hp} {E : XK}
theorem Flies.mono {j k : Nat} {H : Hp} {h : Heap} {e dx : Addr} {c : Value} {od : Obj} {T : Option Addr} (x : Flies k H h e c dx od T) (l : j ≤ k) : Flies j H h e c dx od T :=
  ⟨x.fly, x.dict, Nat.le_trans l x.ke, Nat.le_trans l x.kd, fun t z => Nat.le_trans l (x.kT t z), x.fe, x.fd, x.fT, x.de, x.dT⟩
end
end DL
set_option maxHeartbeats 1000000
namespace DL
open PySem PySem.Spec PyProof.Rows L2
section
variable {prog : Program} {w : World} {A : Around} {E : Value → Shared → Prop} {h : Heap} {g : Array GenState} {d : Drawn} {t : Nat} {os : OsState}
variable {nm q : Str} {C N f : Addr} {bs bm bmB : List Value} {hdct : Bool} {sn : List Str} {sub : List Value} {ab : Bool} {col : Option Bool} {dd : Option Addr} {k0 k1 k2 k3 k5 : Option Value} {B newId initId : String}
end
end DL
set_option maxHeartbeats 1000000
namespace DL
open PySem PySem.Spec PyProof.Rows L2
section
variable {prog : Program} {w : World} {A : Around} {E : Value → Shared → Prop} {h : Heap} {g : Array GenState} {d : Drawn} {t : Nat} {os : OsState}
variable {nm q : Str} {C N f x : Addr} {ox : Obj} {bs bm bmB : List Value} {hdct : Bool} {sn : List Str} {sub : List Value} {ab : Bool} {col : Option Bool} {dd : Option Addr} {k0 k1 k2 k3 k5 : Option Value} {newId : String}
end
end DL
namespace DL
open PySem PySem.Spec PyProof.Rows L2
open Builtin Builtin.ObjectAttr
section
variable {prog : Program} {w : World} {A : Around} {E : Value → Shared → Prop} {h : Heap} {g : Array GenState} {d : Drawn} {t : Nat} {os : OsState}
variable {nm q : Str} {C N x : Addr} {bs bm : List Value} {sn : List Str} {sub : List Value} {ab : Bool} {col : Option Bool} {dd : Option Addr} {k0 k1 k2 k3 k5 : Option Value} {newId : String} {name : Str} {v : Value} {fs : Array Value}
abbrev excObjD (C dx : Addr) (fs : Array Value) : Obj := { cls := .ref C, dict := some dx, data := .fields fs }
end
end DL
namespace DL
open PySem PySem.Spec PyProof.Rows L2
section
variable {prog : Program} {w : World} {A : Around} {E : Value → Shared → Prop} {s : Shared} {env : Env}
end
section
variable {prog : Program} {w : World} {A : Around} {E : Value → Shared → Prop} {h : Heap} {g : Array GenState} {d : Drawn} {t : Nat} {os : OsState} {env : Env}
variable {nm q : Str} {C N x f cc cda ta : Addr} {bs bm l : List Value} {sn : List Str} {sub : List Value} {ab : Bool} {col : Option Bool} {dd : Option Addr} {k0 k1 k2 k3 k5 : Option Value} {newId : String} {a1 a2 a3 a4 a5 : Value}
end
end DL
namespace DL
open PySem PySem.Spec PyProof.Rows L2
section
variable {prog : Program} {w : World} {A : Around} {h : Heap} {g : Array GenState} {d : Drawn} {t : Nat} {os : OsState}
variable {nm q : Str} {C N x f cda ta : Addr} {bs bm l : List Value} {sn : List Str} {sub : List Value} {ab : Bool} {col : Option Bool} {dd : Option Addr} {k0 k1 k2 k3 k5 : Option Value} {newId : String} {a1 a2 a3 a4 a5 : Value}
end
end DL
namespace DL
open PySem PySem.Spec PyProof.Rows L2
abbrev Desc := Value → Value → Option Obj → Prop
structure FliesE (k : Nat) (H : Hp) (h : Heap) (e : Addr) (c : Value) (dx : Option Addr) (od : Option Obj) (T : Option Addr) : Prop where
  fly : FlyAt h e c dx T
  dict : ∀ d, dx = some d → ∃ o, od = some o ∧ h.get? d = some o
  nod : dx = none → od = none
  ke : k ≤ e
  kd : ∀ d, dx = some d → k ≤ d
  kT : ∀ t, T = some t → k ≤ t
  fe : H e = none
  fd : ∀ d, dx = some d → H d = none
  fT : ∀ t, T = some t → H t = none
  de : ∀ d, dx = some d → d ≠ e
  dT : ∀ d, dx = some d → T ≠ some d
theorem FliesE.mono {j k : Nat} {H : Hp} {h : Heap} {e : Addr} {c : Value} {dx : Option Addr} {od : Option Obj} {T : Option Addr} (x : FliesE k H h e c dx od T) (l : j ≤ k) : FliesE j H h e c dx od T :=
  ⟨x.fly, x.dict, x.nod, Nat.le_trans l x.ke, fun d z => Nat.le_trans l (x.kd d z), fun t z => Nat.le_trans l (x.kT t z), x.fe, x.fd, x.fT, x.de, x.dT⟩
abbrev ZX := Value → Hp → Prop
abbrev XD := Value → M → Prop
abbrev TXd := Dn → M → XD → Prop
abbrev FDX := List Dv → M → XD → Prop
abbrev MoX (t : TXd) : Prop := ∀ δ m (W W' : XD), (∀ c m', W c m' → W' c m') → t δ m W → t δ m W'
def upX (K : PySem.W.Frag) (t : TXd) (Z : ZX) (σ : St) (H : Hp) : Prop := ∃ I δ m, Ok K H I m ∧ Rl K I σ δ ∧ t δ m fun code m' => ∀ H' I', Same I I' → Ok K H' I' m' → Z code H'
abbrev GX := List (Addr × Obj) → St → Prop
structure RE (X : Cx) (G : GX) (Z : ZX) (e : Expr) (t : TXd) : Prop where
  mono : MoX t
  re : ∀ (pins : List (Addr × Obj)) (s : Shared) (σ : St) (H : Hp), G pins σ → Inv X pins σ H s → upX X.K t Z σ H → wpAny (model X.prog X.w) X.A (eval e X.env) (fun _ _ => False) X.xe s
structure RA (X : Cx) (G : GX) (Z : ZX) (es : List Expr) (t : TXd) : Prop where
  mono : MoX t
  ra : ∀ (pos : Pos) (pins : List (Addr × Obj)) (s : Shared) (σ : St) (H : Hp), G pins σ → Inv X pins σ H s → upX X.K t Z σ H → wpAny (model X.prog X.w) X.A (spliced (backTo pos (starEach es X.env))) (fun _ _ => False) X.xe s
structure RS (X : Cx) (G : GX) (Z : ZX) (st : Stmt) (t : TXd) : Prop where
  mono : MoX t
  rs : ∀ (pins : List (Addr × Obj)) (s : Shared) (σ : St) (H : Hp), G pins σ → Inv X pins σ H s → upX X.K t Z σ H → wpAny (model X.prog X.w) X.A (exec st X.env) (fun _ _ => False) X.xe s
structure RSs (X : Cx) (G : GX) (Z : ZX) (st : List Stmt) (t : TXd) : Prop where
  mono : MoX t
  rs : ∀ (pins : List (Addr × Obj)) (s : Shared) (σ : St) (H : Hp), G pins σ → Inv X pins σ H s → upX X.K t Z σ H → wpAny (model X.prog X.w) X.A (execs st X.env) (fun _ _ => False) X.xe s
section
variable {Ds : Desc} {X : Cx} {G : GX} {Z : ZX} {e : Expr} {es : List Expr} {st : Stmt} {rest a b : List Stmt} {tx ty : TXd} {te : TD} {ta : TAd} {tc : TBd} {ts : TSd} {pos : Pos}
def xCall (F : FDX) (t : TAd) : TXd := fun δ m W => t δ m fun ds m1 => F ds m1 W
def xThen (te : TD) (tx : TXd) : TXd := fun δ m W => te δ m fun _ m1 => tx δ m1 W
def xIf (tc : TBd) (ta tb : TXd) : TXd := fun δ m W => tc δ m fun c m1 => if c = true then ta δ m1 W else tb δ m1 W
def xSeq (ts : TSd) (tx : TXd) : TXd := fun δ m W => ts { nx := fun δ' m' => tx δ' m' W, rt := fun _ _ => False } δ m
end
section
variable {Ds : Desc} {P : Program} {w : World} {K : PySem.W.Frag} {mg : Str → Option Value} {base : Heap} {N : List Str} {qual : Str} {scope : Scope} {f : Addr} {cd : Value} {A : Around} {outer : List Env} {s : Shared} {H : Hp} {E : XK}
end
end DL
set_option maxHeartbeats 1000000
namespace DL
open PySem PySem.Spec PyProof.Rows L2
def NumObj (n : Int) (o : Obj) : Prop := ∃ es ep tk, o.data = .dict es ep ∧ StrKeys es ∧ UniqKeys es ∧ ∀ name, nsFind es name = if name = "number" then some (.int n tk) else none
structure Num (P : Program) (w : World) (K : PySem.W.Frag) (mg : Str → Option Value) (base : Heap) (C : Addr) : Prop where
  kp : PySem.W.keepIn K (.ref C) = true
  cls : ∃ nm q N bs bm hdct sn sub ab col dd k0 k1 k2 k3 k5 newId, K.lookup C = some (excClassObj nm q C N bs bm hdct sn sub ab col dd k0 k1 k2 k3 k5 newId) ∧ bm.contains (.type "BaseException") = true
  make : ∀ (A : Around) (h : Heap) (g : Array GenState) (d : Drawn) (t : Nat) (os : OsState) (n : Int) (tk : Tok) (Q : Value → Shared → Prop) (E : Value → Shared → Prop), Room 1 A → Mod K mg base → (∀ b o, base.get? b = some o → h.get? b = some o) → n.natAbs.log2 < 1920 →
    (∀ h' tk' dx a0, (∀ b o, h.get? b = some o → h'.get? b = some o) → h'.get? (h.objs.size + 1) = some (excObjD C dx #[.ref a0, .none, .none, .none, .bool false, .none]) →
      h'.Ns1 dx (fun y => if y = "number" then some (.int n tk) else none) → h.objs.size + 1 < dx → Q (.ref (h.objs.size + 1)) ⟨h', g, d, tk', os⟩) →
    wpAny (model P w) A (call (.ref C) [.int n tk]) Q E ⟨h, g, d, t, os⟩
section
variable {M : Model} {A : Around} {E : Value → Shared → Prop} {env : Env} {nm q : Str} {C N : Addr} {bs bm : List Value} {hdct : Bool} {sn : List Str} {sub : List Value} {ab : Bool} {col : Option Bool} {dd : Option Addr} {k0 k1 k2 k3 k5 : Option Value} {newId : String}
end
section
variable {Ds : Desc} {X : Cx} {G : GX} {Z : ZX} {e : Expr} {te : TD} {C : Addr} {x : Str} {p cpos pos : Pos}
def xRaise (te : TD) : TXd := fun δ m W => te δ m fun y m1 => ∃ n : Int, y = .d (.int n) ∧ n.natAbs.log2 < 1920 ∧ W (.int n 0) m1
end
end DL
set_option maxHeartbeats 1000000
namespace DL
open PySem PySem.Spec PyProof.Rows L2
def At (a : Addr) (o : Obj) : Heap → Prop := fun h => h.get? a = some o
def ExcR (C : Addr) (n : Int) (p : Addr) (I : Hp) (o : HO) : Prop := ∃ ox dx od, o = .ext (At p ox) ∧ ox.cls = .ref C ∧ PySem.W.notCls ox = true ∧ ox.dict = some dx ∧ I dx = some (.ext (At dx od)) ∧ NumObj n od
def mExc (C : Addr) (n : Int) (p : Addr) : MO := .gen (ExcR C n p) fun _ _ _ e ⟨ox, dx, od, h1, h2, h3, h4, h5, h6⟩ => ⟨ox, dx, od, h1, h2, h3, h4, e _ _ h5, h6⟩
section
variable {X : Cx} {pins : List (Addr × Obj)} {σ : L2.St} {H : Hp} {s : Shared}
end
section
variable {M : Model} {A : Around} {E : Value → Shared → Prop} {nm q nm' q' : Str} {C N L N' : Addr} {bs bm bs' bm' : List Value} {hdct hdct' : Bool} {sn sn' : List Str} {sub sub' : List Value} {ab ab' : Bool} {col col' : Option Bool} {dd dd' : Option Addr} {k0 k1 k2 k3 k5 k0' k1' k2' k3' k5' : Option Value} {newId newId' : String}
end
end DL
set_option maxHeartbeats 1000000
namespace DL
open PySem PySem.Spec PyProof.Rows L2
structure Under (K : PySem.W.Frag) (C L : Addr) : Prop where
  sub : ∃ nm q N bs bm hdct sn sub ab col dd k0 k1 k2 k3 k5 newId, K.lookup C = some (excClassObj nm q C N bs bm hdct sn sub ab col dd k0 k1 k2 k3 k5 newId) ∧ (Value.ref C :: bm).contains (.ref L) = true
  top : ∃ nm q N bs bm hdct sn sub ab col dd k0 k1 k2 k3 k5 newId, K.lookup L = some (excClassObj nm q L N bs bm hdct sn sub ab col dd k0 k1 k2 k3 k5 newId) ∧ bm.contains (.type "BaseException") = true
section
variable {X : Cx} {body : List Stmt} {tx : TXd} {C L : Addr} {cN eN fN : Str} {np q1 q2 q3 hpos pos : Pos} {iF iE : Nat}
def sTry (C : Addr) (iF iE : Nat) (tx : TXd) : TSd := fun D δ m => tx δ m fun code m' => ∃ n, code = .int n 0 ∧ ∀ p, m' p = none → D.nx ((δ.set iF (some (.r p))).set iE none) (setM m' p (mExc C n p))
end
end DL
set_option maxHeartbeats 1000000
namespace DL
open PySem PySem.Spec PyProof.Rows L2
open PySem.W (InstAt Looks looks_findIn looks_find looks_mroIn looks_hook handedOut_of)
structure ExcK (K : PySem.W.Frag) (C : Addr) : Prop where
  g : PySem.W.findIn K (.ref C) "__getattribute__" = some (some (.builtin "BaseException.__getattribute__"))
  h : PySem.W.findIn K (.ref C) "__getattr__" = some none
  b : PySem.W.mroIn K C (.type "BaseException") = some true
  d : PySem.W.hasDictIn K C = true
  a : PySem.W.findIn K (.ref C) "__class__" = some (some (.builtin "object.__class__"))
  n : PySem.W.specialIn K (.builtin "object.__class__") "__get__" = some (some (.builtin "getset_descriptor.__get__"))
  t : PySem.W.takesIn K (.builtin "object.__class__") = some true
  m : PySem.W.mroIn K C (.type "object") = some true
  nu : PySem.W.findIn K (.ref C) "number" = some none
section
variable {prog : Program} {w : World} {A : Around} {E : Value → Shared → Prop} {s : Shared} {K : PySem.W.Frag} {x C : Addr} {ox : Obj} {od : Option Obj} {name : Str} {tk : Tok}
end
end DL
set_option maxHeartbeats 1000000
namespace DL
open PySem PySem.Spec PyProof.Rows L2
section
variable {X : Cx} {pins : List (Addr × Obj)} {σ : L2.St} {H : Hp} {s : Shared} {C p : Addr} {n : Int}
end
section
variable {X : Cx} {e : Expr} {te : TD} {pos p p2 tp : Pos} {C : Addr}
def dIsE (C : Addr) (b : Bool) (te : TD) : TD := fun δ m Q => te δ m fun x m1 => ∃ a n, x = .r a ∧ m1 a = some (mExc C n a) ∧ Q (.d (.bool b)) m1
def dNum (C : Addr) (te : TD) : TD := fun δ m Q => te δ m fun x m1 => ∃ a n, x = .r a ∧ m1 a = some (mExc C n a) ∧ Q (.d (.int n)) m1
end
end DL
set_option maxHeartbeats 1000000
namespace DL
open PySem PySem.Spec PyProof.Rows L2
end DL
namespace K
open PySem L2 DL Sp
def Below (s n : Int) : Prop := n < s ∧ n.natAbs.log2 < 1920
end K
namespace K
open PySem L2 DL Sp
def F__law_caught (C : Addr) : FD := fun ds m Q => ∃ s q r n, ds = [spi s q r, I n] ∧ Below s n ∧ ∀ p, m p = none → Q (.r p) (setM m p (mExc C n p))
theorem mo__law_caught {C : Addr} : MoA (F__law_caught C) := fun _ _ _ _ h ⟨s, q, r, n, e, l, z⟩ => ⟨s, q, r, n, e, l, fun p hp => h _ _ (z p hp)⟩
end K
namespace KC
open PySem L2 DL Sp K K11
def flt (d : PyData) : Prop := (∃ x : Int, d = .int x) ∨ (∃ x : Str, d = .str x ∧ SeqAt.shaped (.str x) = true)
def F__law_same0 : FD := fun ds m Q => ∃ d, ds = [.d d, .d d] ∧ flt d ∧ Q (.d (.bool true)) m
def F__law_same : FD := fun ds m Q => ∃ d, ds = [.d d, .d d] ∧ (flt d ∨ d = .none ∨ ∃ xs : List PyData, xs.length ≤ 2 ^ 20 ∧ (∀ x ∈ xs, flt x) ∧ d = .tuple xs) ∧ Q (.d (.bool true)) m
theorem mo__law_same0 : MoA F__law_same0 := fun _ _ _ _ h ⟨d, e, l, z⟩ => ⟨d, e, l, h _ _ z⟩
theorem mo__law_same : MoA F__law_same := fun _ _ _ _ h ⟨d, e, l, z⟩ => ⟨d, e, l, h _ _ z⟩
theorem isT_ss : isT "str" "str" = true := by decide
theorem isT_st : isT "str" "tuple" = false := by decide
theorem isT_ts : isT "tuple" "str" = false := by decide
theorem zip_self : ∀ L : List PyData, zipD L L = L.map fun x => Dv.d (.tuple [x, x])
  | [] => rfl
  | x :: t => by rw [List.map_cons, ← zip_self t]; rfl
theorem flt_i (x : Int) : flt (.int x) := .inl ⟨x, rfl⟩
def F__law_steps : FD := fun ds m Q => ∃ a o c s, ds = [.r a, I s] ∧ m a = some o ∧ DeckB o c ∧ c < 2 ^ 36 ∧ (-(2 * 10 ^ 18) ≤ s ∧ s ≤ 2 * 10 ^ 18) ∧ ∀ v o', 0 ≤ v → v ≤ 10 ^ 20 - s → DeckB o' (c + 12) → Q (I v) (setM m a o')
theorem mo__law_steps : MoA F__law_steps := fun _ _ _ _ h ⟨a, o, c, s, e, h1, h2, h3, h4, z⟩ => ⟨a, o, c, s, e, h1, h2, h3, h4, fun r o' a b d => h _ _ (z r o' a b d)⟩
abbrev F_law : FD := K11.F_law
theorem mo_law : MoA F_law := K11.mo_law
abbrev F__law_deck : FD := K11.F__law_deck
abbrev F__law_draw : FD := K11.F__law_draw
abbrev F__law_wide : FD := K11.F__law_wide
abbrev F__law_spiral : FD := K11.F__law_spiral
theorem mo__law_deck : MoA F__law_deck := K11.mo__law_deck
theorem mo__law_draw : MoA F__law_draw := K11.mo__law_draw
theorem mo__law_wide : MoA F__law_wide := K11.mo__law_wide
theorem mo__law_spiral : MoA F__law_spiral := K11.mo__law_spiral
end KC
namespace KC
open PySem L2 DL Sp K K11
end KC
namespace KC
open PySem L2 DL Sp K K11
end KC
set_option maxHeartbeats 1000000
namespace Sp
def bR (f g R : Int) : Int := 2 * R * (f + g + 2 * R - 1)
theorem bR_succ (f g R : Int) : bR f g (R + 1) = bR f g R + 2 * f + 2 * g + 8 * R + 2 := by unfold bR; grind
theorem bR_le {f g R R' : Int} (hf : 1 ≤ f) (hg : 1 ≤ g) (hR : 0 ≤ R) (h : R ≤ R') : bR f g R ≤ bR f g R' := by
  unfold bR
  exact Int.mul_le_mul (by omega) (by omega) (by omega) (by omega)
theorem bR_lt {f g R R' : Int} (hf : 1 ≤ f) (hg : 1 ≤ g) (hR : 0 ≤ R) (h : R < R') : bR f g R + 2 * f + 2 * g + 8 * R + 2 ≤ bR f g R' := by
  rw [← bR_succ]; exact bR_le hf hg (by omega) (by omega)
def ArmAt (f g o u v : Int) : Prop := ∃ R : Int, 0 ≤ R ∧
  ((v = -R ∧ -R ≤ u ∧ u ≤ f + R ∧ o = bR f g R + (u + R)) ∨
   (u = f + R ∧ -R ≤ v ∧ v ≤ g + R ∧ o = bR f g R + f + 2 * R + (v + R)) ∨
   (v = g + R ∧ -R - 1 ≤ u ∧ u ≤ f + R ∧ o = bR f g R + f + g + 4 * R + (f + R - u)) ∨
   (u = -R - 1 ∧ -R - 1 ≤ v ∧ v ≤ g + R ∧ o = bR f g R + 2 * f + g + 6 * R + 1 + (g + R - v)))
theorem ArmAt.inj {f g o o' u v : Int} (hf : 1 ≤ f) (hg : 1 ≤ g) (h : ArmAt f g o u v) (h' : ArmAt f g o' u v) : o = o' := by
  obtain ⟨R, h0, h⟩ := h
  obtain ⟨S, k0, k⟩ := h'
  have e1 := bR_succ f g R
  have e2 := bR_succ f g S
  by_cases c : R = S
  · subst c; omega
  by_cases c2 : S = R + 1
  · subst c2; omega
  by_cases c3 : R = S + 1
  · subst c3; omega
  · exfalso; omega
theorem ArmAt.uniq {f g o u v u' v' : Int} (hf : 1 ≤ f) (hg : 1 ≤ g) (h : ArmAt f g o u v) (h' : ArmAt f g o u' v') : u = u' ∧ v = v' := by
  obtain ⟨R, h0, h⟩ := h
  obtain ⟨S, k0, k⟩ := h'
  have e1 := bR_succ f g R
  have e2 := bR_succ f g S
  rcases Int.lt_trichotomy R S with c | c | c
  · by_cases c2 : S = R + 1
    · subst c2; omega
    · exfalso
      have := bR_lt (f := f) (g := g) (R := R + 1) (R' := S) hf hg (by omega) (by omega)
      omega
  · subst c; omega
  · by_cases c2 : R = S + 1
    · subst c2; omega
    · exfalso
      have := bR_lt (f := f) (g := g) (R := S + 1) (R' := R) hf hg (by omega) (by omega)
      omega
theorem ArmAt.next {f g o u v u' v' : Int} (hf : 1 ≤ f) (hg : 1 ≤ g) (h : ArmAt f g o u v) (h' : ArmAt f g (o + 1) u' v') :
    (u' = u + 1 ∧ v' = v) ∨ (u' = u ∧ v' = v + 1) ∨ (u' = u - 1 ∧ v' = v) ∨ (u' = u ∧ v' = v - 1) := by
  obtain ⟨R, h0, h⟩ := h
  obtain ⟨S, k0, k⟩ := h'
  have e1 := bR_succ f g R
  have e2 := bR_succ f g S
  rcases Int.lt_trichotomy R S with c | c | c
  · by_cases c2 : S = R + 1
    · subst c2; omega
    · exfalso
      have := bR_lt (f := f) (g := g) (R := R + 1) (R' := S) hf hg (by omega) (by omega)
      omega
  · subst c; omega
  · by_cases c2 : R = S + 1
    · subst c2; omega
    · exfalso
      have := bR_lt (f := f) (g := g) (R := S + 1) (R' := R) hf hg (by omega) (by omega)
      omega
theorem arm_one {o u v : Int} (h : ArmAt 1 1 o u v) : po u v = o := by
  obtain ⟨R, h0, h⟩ := h
  have e : bR 1 1 R = 4 * R * R + 2 * R := by unfold bR; grind
  have e1 : 4 * (R + 1) * (R + 1) = 4 * R * R + 8 * R + 4 := by grind
  rw [e] at h
  rcases h with ⟨a, b, c, d⟩ | ⟨a, b, c, d⟩ | ⟨a, b, c, d⟩ | ⟨a, b, c, d⟩
  · by_cases k : u ≤ R
    · rw [po_low a b k]; omega
    · rw [po_right (k := R + 1) (by omega) (by omega) (by omega)]; omega
  · by_cases k : v ≤ R
    · rw [po_right (k := R + 1) (by omega) (by omega) (by omega)]; omega
    · rw [po_top (k := R + 1) (by omega) (by omega) (by omega)]; omega
  · by_cases k : -R - 1 < u
    · rw [po_top (k := R + 1) (by omega) (by omega) (by omega)]; omega
    · rw [po_left (k := R + 1) (by omega) (by omega) (by omega)]; omega
  · by_cases k : -R - 1 < v
    · rw [po_left (k := R + 1) (by omega) (by omega) (by omega)]; omega
    · rw [po_low (k := R + 1) (by omega) (by omega) (by omega)]; omega
def bo (f g k : Int) : Int := if k % 2 = 1 then k / 2 * (f + g + k / 2 - 1) + (f + k / 2) else k / 2 * (f + g + k / 2 - 1)
def rl (f g k : Int) : Int := (if k % 2 = 1 then g else f) + k / 2
def bpx (f k : Int) : Int := if k % 4 = 0 then -(k / 4) else if k % 4 = 3 then -(k / 4) - 1 else f + k / 4
def bpy (g k : Int) : Int := if k % 4 = 0 ∨ k % 4 = 1 then -(k / 4) else g + k / 4
theorem bo_step (f g k : Int) : bo f g (k + 1) = bo f g k + rl f g k := by
  unfold bo rl
  rcases (show k % 2 = 0 ∨ k % 2 = 1 by omega) with h | h
  · rw [if_pos (by omega), if_neg (by omega), if_neg (by omega), show (k + 1) / 2 = k / 2 by omega]
  · rw [if_neg (by omega), if_pos (by omega), if_pos (by omega), show (k + 1) / 2 = k / 2 + 1 by omega]
    generalize k / 2 = p
    grind
theorem bo4 (f g R : Int) : bo f g (4 * R) = bR f g R ∧ bo f g (4 * R + 1) = bR f g R + f + 2 * R ∧ bo f g (4 * R + 2) = bR f g R + f + g + 4 * R ∧ bo f g (4 * R + 3) = bR f g R + 2 * f + g + 6 * R + 1 := by
  have h0 : bo f g (4 * R) = bR f g R := by
    unfold bo bR; rw [if_neg (by omega), show 4 * R / 2 = 2 * R by omega]
  have h1 := bo_step f g (4 * R)
  have h2 := bo_step f g (4 * R + 1)
  have h3 := bo_step f g (4 * R + 2)
  unfold rl at h1 h2 h3
  rw [if_neg (by omega)] at h1 h3
  rw [if_pos (by omega)] at h2
  rw [show 4 * R + 1 + 1 = 4 * R + 2 by omega] at h2
  rw [show 4 * R + 2 + 1 = 4 * R + 3 by omega] at h3
  omega
theorem rl_pos {f g k : Int} (hf : 1 ≤ f) (hg : 1 ≤ g) (hk : 0 ≤ k) : 1 ≤ rl f g k := by unfold rl; split <;> omega
theorem bo_lt {f g : Int} (hf : 1 ≤ f) (hg : 1 ≤ g) {k : Int} (hk : 0 ≤ k) : ∀ n : Nat, bo f g k + n ≤ bo f g (k + n)
  | 0 => by simp
  | n + 1 => by
    have := bo_lt hf hg hk n
    have e := bo_step f g (k + n)
    have := rl_pos (f := f) (g := g) (k := k + n) hf hg (by omega)
    rw [show k + ((n + 1 : Nat) : Int) = k + n + 1 by omega]
    omega
theorem bo_mono {f g : Int} (hf : 1 ≤ f) (hg : 1 ≤ g) {k k' : Int} (hk : 0 ≤ k) (h : k ≤ k') : bo f g k + (k' - k) ≤ bo f g k' := by
  have := bo_lt hf hg hk (k' - k).toNat
  rw [show k + ((k' - k).toNat : Int) = k' by omega] at this
  omega
theorem bo_zero (f g : Int) : bo f g 0 = 0 := by unfold bo; simp
theorem arm_run {f g k j : Int} (hk : 0 ≤ k) (h0 : 0 ≤ j) (h1 : j ≤ rl f g k) :
    ArmAt f g (bo f g k + j) (bpx f k + sx (k % 4).toNat * j) (bpy g k + sy (k % 4).toNat * j) := by
  obtain ⟨R, c, e, hc⟩ : ∃ R c : Int, k = 4 * R + c ∧ (c = 0 ∨ c = 1 ∨ c = 2 ∨ c = 3) := ⟨k / 4, k % 4, by omega, by omega⟩
  obtain ⟨b0, b1, b2, b3⟩ := bo4 f g R
  unfold rl at h1
  refine ⟨R, by omega, ?_⟩
  unfold bpx bpy sx sy
  rcases hc with rfl | rfl | rfl | rfl
  · rw [Int.add_zero] at e
    subst e
    have e4 : 4 * R % 4 = 0 := by omega
    have e5 : 4 * R / 4 = R := by omega
    have e2 : 4 * R / 2 = 2 * R := by omega
    rw [if_neg (by omega), e2] at h1
    rw [b0]
    simp only [e4, e5, Int.toNat_zero, if_true]
    simp
    omega
  · subst e
    have e4 : (4 * R + 1) % 4 = 1 := by omega
    have e5 : (4 * R + 1) / 4 = R := by omega
    have e2 : (4 * R + 1) / 2 = 2 * R := by omega
    rw [if_pos (by omega), e2] at h1
    rw [b1]
    simp only [e4, e5]
    simp
    omega
  · subst e
    have e4 : (4 * R + 2) % 4 = 2 := by omega
    have e5 : (4 * R + 2) / 4 = R := by omega
    have e2 : (4 * R + 2) / 2 = 2 * R + 1 := by omega
    rw [if_neg (by omega), e2] at h1
    rw [b2]
    simp only [e4, e5]
    simp
    omega
  · subst e
    have e4 : (4 * R + 3) % 4 = 3 := by omega
    have e5 : (4 * R + 3) / 4 = R := by omega
    have e2 : (4 * R + 3) / 2 = 2 * R + 1 := by omega
    rw [if_pos (by omega), e2] at h1
    rw [b3]
    simp only [e4, e5]
    simp
    omega
end Sp
namespace K
open PySem L2 DL Sp
def ArmB (f g : Int) : Prop := (1 ≤ f ∧ f < 2 ^ 30) ∧ (1 ≤ g ∧ g < 2 ^ 30)
theorem sxc (k : Int) : sx (k % 4).toNat = 1 ∨ sx (k % 4).toNat = 0 ∨ sx (k % 4).toNat = -1 := by unfold sx; split; simp; split <;> simp
theorem syc (k : Int) : sy (k % 4).toNat = 1 ∨ sy (k % 4).toNat = 0 ∨ sy (k % 4).toNat = -1 := by unfold sy; split; simp; split <;> simp
end K
set_option maxHeartbeats 1000000
namespace Sp
theorem half2 (p : Int) : ∃ e, p * (p - 1) = 2 * e := by
  rcases (show p % 2 = 0 ∨ p % 2 = 1 by omega) with h | h
  · exact ⟨p / 2 * (p - 1), by have : p = 2 * (p / 2) := by omega
                               generalize p / 2 = k at *; subst this; grind⟩
  · exact ⟨p * ((p - 1) / 2), by have : p = 2 * ((p - 1) / 2) + 1 := by omega
                                 generalize (p - 1) / 2 = k at *; subst this; grind⟩
theorem steps_eq (f g k : Int) : (k + 1) / 2 * f + (k + 1) / 2 * ((k + 1) / 2 - 1) / 2 + k / 2 * g + k / 2 * (k / 2 - 1) / 2 = bo f g k := by
  unfold bo
  rcases (show k % 2 = 0 ∨ k % 2 = 1 by omega) with h | h
  · rw [if_neg (by omega), show (k + 1) / 2 = k / 2 by omega]
    generalize k / 2 = p
    obtain ⟨e, he⟩ := half2 p
    rw [he, show 2 * e / 2 = e by omega]
    grind
  · rw [if_pos h, show (k + 1) / 2 = k / 2 + 1 by omega]
    generalize k / 2 = p
    obtain ⟨e, he⟩ := half2 p
    obtain ⟨e2, he2⟩ := half2 (p + 1)
    rw [he, he2, show 2 * e / 2 = e by omega, show 2 * e2 / 2 = e2 by omega]
    grind
theorem bo_lb {f g k : Int} (hf : 1 ≤ f) (hg : 1 ≤ g) (hk : 0 ≤ k) : k / 2 * (k / 2) ≤ bo f g k := by
  have h : k / 2 * (k / 2) ≤ k / 2 * (f + g + k / 2 - 1) := Int.mul_le_mul_of_nonneg_left (by omega) (by omega)
  unfold bo
  split <;> omega
theorem run_small {f g k o : Int} (hf : 1 ≤ f) (hg : 1 ≤ g) (hk : 0 ≤ k) (h : bo f g k ≤ o) (ho : o < 2 ^ 110) : k < 2 ^ 57 := by
  have := bo_lb hf hg hk
  rcases Int.lt_or_le k (2 ^ 57) with c | c
  · exact c
  · exfalso
    have : (2 ^ 56) * (2 ^ 56) ≤ k / 2 * (k / 2) := Int.mul_le_mul (by omega) (by omega) (by decide) (by omega)
    omega
def taf (n a : Int) : Int := if n % 2 = 1 then a + n / 2 else 0 - n / 2
theorem taf_x {f k : Int} : taf ((k + 1) / 2) f = bpx f k := by
  unfold taf bpx
  rcases (show k % 4 = 0 ∨ k % 4 = 1 ∨ k % 4 = 2 ∨ k % 4 = 3 by omega) with h | h | h | h
  · rw [if_neg (by omega), if_pos h]; omega
  · rw [if_pos (by omega), if_neg (by omega), if_neg (by omega)]; omega
  · rw [if_pos (by omega), if_neg (by omega), if_neg (by omega)]; omega
  · rw [if_neg (by omega), if_neg (by omega), if_pos h]; omega
theorem taf_y {g k : Int} : taf (k / 2) g = bpy g k := by
  unfold taf bpy
  rcases (show k % 4 = 0 ∨ k % 4 = 1 ∨ k % 4 = 2 ∨ k % 4 = 3 by omega) with h | h | h | h
  · rw [if_neg (by omega), if_pos (.inl h)]; omega
  · rw [if_neg (by omega), if_pos (.inr h)]; omega
  · rw [if_pos (by omega), if_neg (by omega)]; omega
  · rw [if_pos (by omega), if_neg (by omega)]; omega
def rotL : Nat → Int → Int → Int × Int
  | 0, x, y => (x, y)
  | n + 1, x, y => (0 - (rotL n x y).2, (rotL n x y).1)
theorem rot_fp {q : Nat} (hq : q < 4) (r : Bool) (u v : Int) : (rotL q u (if r = true then 0 - v else v)).1 = fpx q r u v ∧ (rotL q u (if r = true then 0 - v else v)).2 = fpy q r u v := by
  rcases (show q = 0 ∨ q = 1 ∨ q = 2 ∨ q = 3 by omega) with rfl | rfl | rfl | rfl <;> cases r <;> simp [rotL, fpx, fpy, rotx, roty, mir]
end Sp
namespace KC
open PySem L2 DL Sp K K11
def F__law_runs_steps : FD := fun ds m Q => ∃ k f g, ds = [I k, pr f g] ∧ ArmB f g ∧ (0 ≤ k ∧ k < 2 ^ 62) ∧ Q (I (bo f g k)) m
def F__law_runs : FD := fun ds m Q => ∃ o f g, ds = [I o, pr f g] ∧ ArmB f g ∧ (0 ≤ o ∧ o < 2 ^ 110) ∧ ∀ k, 0 ≤ k → bo f g k ≤ o → o < bo f g (k + 1) → Q (I k) m
def F__law_to_and_fro : FD := fun ds m Q => ∃ n a, ds = [I n, I a] ∧ 0 ≤ n ∧ Q (I (taf n a)) m
def F__law_turned : FD := fun ds m Q => ∃ s q r u v, ds = [spi s q r, pr u v] ∧ q < 4 ∧ Q (pr (fpx q r u v) (fpy q r u v)) m
def F__law_place : FD := fun ds m Q => ∃ s q r f g n, ds = [spi s q r, pr f g, I n] ∧ q < 4 ∧ ArmB f g ∧ (s ≤ n ∧ n - s < 2 ^ 110) ∧ ∀ u v, ArmAt f g (n - s) u v → Q (pr (fpx q r u v) (fpy q r u v)) m
def ArmS (f g : Int) : Prop := (1 ≤ f ∧ f ≤ 1000000) ∧ (1 ≤ g ∧ g ≤ 1000000)
theorem ArmS.b {f g : Int} (h : ArmS f g) : ArmB f g := by obtain ⟨⟨a, b⟩, c, d⟩ := h; exact ⟨⟨a, by omega⟩, c, by omega⟩
theorem mo__law_runs_steps : MoA F__law_runs_steps := fun _ _ _ _ h ⟨k, f, g, e, l, b, z⟩ => ⟨k, f, g, e, l, b, h _ _ z⟩
theorem mo__law_runs : MoA F__law_runs := fun _ _ _ _ h ⟨o, f, g, e, l, b, z⟩ => ⟨o, f, g, e, l, b, fun k h1 h2 h3 => h _ _ (z k h1 h2 h3)⟩
theorem mo__law_to_and_fro : MoA F__law_to_and_fro := fun _ _ _ _ h ⟨n, a, e, l, z⟩ => ⟨n, a, e, l, h _ _ z⟩
theorem mo__law_turned : MoA F__law_turned := fun _ _ _ _ h ⟨s, q, r, u, v, e, l, z⟩ => ⟨s, q, r, u, v, e, l, h _ _ z⟩
theorem mo__law_place : MoA F__law_place := fun _ _ _ _ h ⟨s, q, r, f, g, n, e, l, a, b, z⟩ => ⟨s, q, r, f, g, n, e, l, a, b, fun u v h1 => h _ _ (z u v h1)⟩
theorem at_taf {n a : Int} : atI [PyData.int (0 - n / 2), .int (a + n / 2)] (n % 2) = some (.int (taf n a)) := by
  unfold taf
  rcases (show n % 2 = 0 ∨ n % 2 = 1 by omega) with h | h
  · rw [h]; exact at0
  · rw [h]; exact at1
theorem at_sx {k : Int} : atI [PyData.int 1, .int 0, .int (-1), .int 0] (k % 4) = some (.int (sx (k % 4).toNat)) := by
  rcases (show k % 4 = 0 ∨ k % 4 = 1 ∨ k % 4 = 2 ∨ k % 4 = 3 by omega) with h | h | h | h
  · rw [h]; exact at0
  · rw [h]; exact at1
  · rw [h]; exact at2
  · rw [h]; exact at3
theorem at_sy {k : Int} : atI [PyData.int 0, .int 1, .int 0, .int (-1)] (k % 4) = some (.int (sy (k % 4).toNat)) := by
  rcases (show k % 4 = 0 ∨ k % 4 = 1 ∨ k % 4 = 2 ∨ k % 4 = 3 by omega) with h | h | h | h
  · rw [h]; exact at0
  · rw [h]; exact at1
  · rw [h]; exact at2
  · rw [h]; exact at3
end KC
namespace KA
open PySem L2 DL Sp K K11
def F__law_caught (C : Addr) : FD := fun ds m Q => ∃ s q r f g n, ds = [spi s q r, pr f g, I n] ∧ Below s n ∧ ∀ p, m p = none → Q (.r p) (setM m p (mExc C n p))
theorem mo__law_caught {C : Addr} : MoA (F__law_caught C) := fun _ _ _ _ h ⟨s, q, r, f, g, n, e, l, z⟩ => ⟨s, q, r, f, g, n, e, l, fun p hp => h _ _ (z p hp)⟩
end KA
namespace KB
open PySem L2 DL Sp K K11
def F__law_caught (C : Addr) : FD := fun ds m Q => ∃ s q r s' q' r' n, ds = [spi s q r, spi s' q' r', I n] ∧ Below s n ∧ ∀ p, m p = none → Q (.r p) (setM m p (mExc C n p))
theorem mo__law_caught {C : Addr} : MoA (F__law_caught C) := fun _ _ _ _ h ⟨s, q, r, s', q', r', n, e, l, z⟩ => ⟨s, q, r, s', q', r', n, e, l, fun p hp => h _ _ (z p hp)⟩
end KB
namespace KC
open PySem L2 DL Sp K K11
end KC
namespace K
open PySem L2 DL Sp
end K
namespace KB
open PySem L2 DL Sp K K11
end KB
namespace KC
open PySem L2 DL Sp K K11
theorem arm_place {q : Nat} (hq4 : q < 4) {r : Bool} {o u v : Int} (h : ArmAt 1 1 o u v) : at' q r (fpx q r u v) (fpy q r u v) = o := (at_fp hq4 r u v).trans (arm_one h)
end KC
namespace KB
open PySem L2 DL Sp K K11
end KB
namespace DL
open PySem PySem.Spec PyProof.Rows L2
section
variable {X : Cx} {o e : Expr} {to te : TD} {pos apos : Pos}
end
end DL
namespace DL
open PySem PySem.Spec PyProof.Rows L2
section
variable {X : Cx} {o e : Expr} {to te : TD} {pos apos : Pos}
end
end DL
namespace DL
open PySem PySem.Spec PyProof.Rows L2
section
variable {prog : Program} {w : World} {A : Around} {E : Value → Shared → Prop} {s : Shared}
end
section
variable {X : Cx} {a b c d : Expr} {t : TAd} {pos : Pos}
end
end DL
namespace DL
open PySem PySem.Spec PyProof.Rows L2
theorem freeze {K : PySem.W.Frag} {H I : Hp} {m : M} {p : Addr} {xs : List PyData} (ok : Ok K H I m) (e : m p = some (.lst (xs.map .d))) : ∃ I', Same I I' ∧ Ok K H I' (delM m p) ∧ Dp K I' (.ref p) (.list xs) := by
  obtain ⟨vs, hv, al⟩ := ok.lst e
  have fI : I p = none := by
    cases h : I p with
    | none => rfl
    | some o => have := ok.dj p o h; rw [e] at this; cases this
  have sm : Same I (upd I p (.lst vs)) := same_new (H := H) fI
  refine ⟨upd I p (.lst vs), sm, ⟨fun a o h => ?_, fun a o h => ?_, fun a q h => ?_⟩, Dp.lst (SqL.of upd_same) (DpAll.same sm (dpAll_of al))⟩
  · by_cases c : a = p
    · subst c; rw [upd_same] at h; cases h; exact hv
    · rw [upd_ne c] at h; exact ok.im a o h
  · by_cases c : a = p
    · subst c; unfold delM; rw [if_pos rfl]
    · rw [upd_ne c] at h; unfold delM; rw [if_neg c]; exact ok.dj a o h
  · by_cases c : a = p
    · subst c; unfold delM at h; rw [if_pos rfl] at h; cases h
    · unfold delM at h; rw [if_neg c] at h
      obtain ⟨o, h1, h2⟩ := ok.mu a q h
      exact ⟨o, h1, h2.same sm⟩
section
variable {X : Cx} {e : Expr} {te : TD}
end
end DL
namespace DL
open PySem PySem.Spec PyProof.Rows L2
section
variable {X : Cx} {a b c e : Expr} {te : TD} {t : TAd} {pos pos' : Pos}
def sAugI (i : Nat) (te : TD) : TSd := fun D δ m => ∃ x : Int, δ[i]? = some (some (.d (.int x))) ∧ te δ m fun y m1 => ∃ k : Int, y = .d (.int k) ∧ D.nx (δ.set i (some (.d (.int (x + k))))) m1
theorem ds_augI {i : Nat} {x : Str} (hN : X.N.Nodup) (hi : X.N[i]? = some x) (hx : Loc X.env.scope x) (he : DE X e te) (hf : X.fn x = true ∨ X.env.scope.names.lookup x = some .local := by first | exact .inl rfl | exact .inr rfl | assumption) :
    DS X (.AugAssign (.Name x pos') .Add e pos) (sAugI i te) := by
  refine ds_of (ps_aug hN hi hx he.pe ip_add hf) (fun D D' δ m l ⟨x, e1, q⟩ => ⟨x, e1, he.mono δ m _ _ (fun y m1 ⟨k, e2, z⟩ => ⟨k, e2, l.nx _ _ z⟩) q⟩) fun σ H I δ m D ok rl ⟨n, e1, q⟩ => ?_
  obtain ⟨y, h1, h2⟩ := rl.get e1
  refine ⟨y, h1, I, δ, m, ok, rl, he.mono δ m _ _ (fun z m1 ⟨k, e2, q1⟩ v H1 I1 s1 o1 i1 => ?_) q⟩
  subst e2
  exact ⟨n, k, h2.int, i1.int, q1 _ H1 I1 s1 o1 ((rl.same s1).set i (isI _))⟩
def max3 (i j k : Int) : Int := maxI (maxI i j) k
theorem call_max3 (hc : X.calm = true) : CallR X (.builtin "max") (fun xs H Q => ∃ i j k, xs = [.int i, .int j, .int k] ∧ Q (.int (max3 i j k)) H) := by
  intro pins s σ H xs us Q I r h
  obtain ⟨i, j, k, rfl, q⟩ := h
  cases r with
  | cons r1 r => cases r with
    | cons r2 r => cases r with
      | cons r3 r =>
        cases r
        obtain ⟨t1, rfl⟩ := r1
        obtain ⟨t2, rfl⟩ := r2
        obtain ⟨t3, rfl⟩ := r3
        refine max_three_ints (I.ok.hd hc) fun h' tk kk => ⟨.int _, H, I.kept kk, ?_, q⟩
        unfold max3 maxI
        by_cases h1 : j > i
        · rw [if_pos h1, if_pos h1]
          by_cases h2 : k > j
          · rw [if_pos h2, if_pos h2]; exact ⟨_, rfl⟩
          · rw [if_neg h2, if_neg h2]; exact ⟨_, rfl⟩
        · rw [if_neg h1, if_neg h1]
          by_cases h2 : k > i
          · rw [if_pos h2, if_pos h2]; exact ⟨_, rfl⟩
          · rw [if_neg h2, if_neg h2]; exact ⟨_, rfl⟩
def g3A (g : Int → Int → Int → Int) : RAD
  | [.d (.int i), .d (.int j), .d (.int k)], m, Q => Q (.d (.int (g i j k))) m
  | _, _, _ => False
theorem oA_3 {K : PySem.W.Frag} {g : Int → Int → Int → Int} : OpA K (fun xs H Q => ∃ i j k, xs = [.int i, .int j, .int k] ∧ Q (.int (g i j k)) H) (g3A g) := by
  refine ⟨fun x m Q Q' h q => ?_, fun H I0 I m xs vs Q ok s hx q => ?_⟩
  · unfold g3A at q ⊢
    split at q
    · exact h _ _ q
    · exact q.elim
  · unfold g3A at q
    split at q
    · cases hx with
      | cons h1 hx => cases hx with
        | cons h2 hx => cases hx with
          | cons h3 hx =>
            cases hx
            exact ⟨_, _, _, by rw [h1.int, h2.int, h3.int], qd_same ok s (isI _) q⟩
    · exact q.elim
theorem de_max3 {p : Pos} (hc : X.calm = true) (hg : Gl X "max") (hm : X.mg "max" = none) (ha : DA X [a, b, c] t) (he : starEach [a, b, c] X.env = (false, eval a X.env) :: starEach [b, c] X.env := by rfl) (hpl : (backTo pos (starEach [b, c] X.env)).any (·.1) = false := by rfl) : DE X (.Call (.Name "max" p) [a, b, c] [] pos) (dCB (g3A max3) t) :=
  de_callB (call_max3 hc) (oA_3 (g := max3)) hg hm (by decide +kernel) ha (he := he) (hpl := hpl)
end
end DL
namespace DL
open PySem PySem.Spec PyProof.Rows L2
section
variable {X : Cx} {pos : Pos} {a : Expr} {ta : TAd}
def dLstRng (ta : TAd) : TD := fun δ m Q => ta δ m fun ds m1 => ∃ j : Int, ds = [.d (.int j)] ∧ (0 ≤ j ∧ j < 2 ^ 24) ∧ Q (.d (.list ((List.range j.toNat).map fun k => .int (0 + ((k : Nat) : Int))))) m1
end
end DL
namespace DL
end DL
namespace Sp
end Sp
namespace K28
open PySem L2 DL Sp K
def F_streets_between : FD := fun ds m Q => ∃ x y x' y', ds = [pr x y, pr x' y'] ∧ Q (I (absI (x - x') + absI (y - y'))) m
theorem mo_streets_between : MoA F_streets_between := fun _ _ _ _ h ⟨x, y, x', y', e, z⟩ => ⟨x, y, x', y', e, h _ _ z⟩
end K28
namespace Sp
end Sp
namespace K28
open PySem L2 DL Sp K
open K11 (DeckB)
end K28
namespace K28
open PySem L2 DL Sp K
open K11 (DeckB)
end K28
namespace K28
open PySem L2 DL Sp K
open Sp (px py pl_at pl_eq)
theorem pl_step {q : Nat} (hq : q < 4) (r : Bool) {n : Int} (h : 0 ≤ n) : absI (px q r (n + 1) - px q r n) + absI (py q r (n + 1) - py q r n) ≤ 1 := by
  have e := pl_at hq r h
  obtain ⟨b, _⟩ := beside_at hq r (px q r n) (py q r n)
  rw [e] at b
  rcases b with b | b | b | b <;> obtain ⟨e1, e2⟩ := pl_eq hq b <;> rw [← e1, ← e2] <;> unfold absI <;> split <;> split <;> omega
noncomputable def apN (s : Int) (q : Nat) (r : Bool) (s' : Int) (q' : Nat) (r' : Bool) (n : Int) : Int := absI (px q r (n - s) - px q' r' (n - s')) + absI (py q r (n - s) - py q' r' (n - s'))
theorem ap_step {s : Int} {q : Nat} {r : Bool} {s' : Int} {q' : Nat} {r' : Bool} (hq : q < 4) (hq' : q' < 4) {n : Int} (h : s ≤ n) (h' : s' ≤ n) : apN s q r s' q' r' n - 2 ≤ apN s q r s' q' r' (n + 1) := by
  have a := pl_step hq r (n := n - s) (by omega)
  have b := pl_step hq' r' (n := n - s') (by omega)
  rw [show n - s + 1 = n + 1 - s by omega] at a
  rw [show n - s' + 1 = n + 1 - s' by omega] at b
  unfold apN
  generalize px q r (n + 1 - s) = a1 at *
  generalize px q r (n - s) = a2 at *
  generalize py q r (n + 1 - s) = a3 at *
  generalize py q r (n - s) = a4 at *
  generalize px q' r' (n + 1 - s') = b1 at *
  generalize px q' r' (n - s') = b2 at *
  generalize py q' r' (n + 1 - s') = b3 at *
  generalize py q' r' (n - s') = b4 at *
  unfold absI at *
  repeat' (first | omega | split at a | split at b | split)
theorem ap_far {s : Int} {q : Nat} {r : Bool} {s' : Int} {q' : Nat} {r' : Bool} (hq : q < 4) (hq' : q' < 4) {n : Int} (h : s ≤ n) (h' : s' ≤ n) : ∀ j : Nat, apN s q r s' q' r' n - 2 * (j : Nat) ≤ apN s q r s' q' r' (n + (j : Nat))
  | 0 => by simp
  | j + 1 => by
    have a := ap_far hq hq' h h' (r := r) (r' := r') j
    have b := ap_step (s := s) (s' := s') hq hq' (r := r) (r' := r') (n := n + (j : Nat)) (by omega) (by omega)
    rw [show n + ((j + 1 : Nat) : Int) = n + (j : Nat) + 1 by omega]
    omega
theorem ap_nn (s : Int) (q : Nat) (r : Bool) (s' : Int) (q' : Nat) (r' : Bool) (n : Int) : 0 ≤ apN s q r s' q' r' n := by unfold apN absI; split <;> split <;> omega
noncomputable def sameN (s : Int) (q : Nat) (r : Bool) (s' : Int) (q' : Nat) (r' : Bool) (n : Int) : Bool := decide (apN s q r s' q' r' n = 0)
def fromTo (lo : Int) (k : Nat) (p : Int → Bool) : List Int := ((List.range k).map fun i => lo + (i : Nat)).filter p
theorem fromTo_one (lo : Int) (k : Nat) (p : Int → Bool) : fromTo lo (k + 1) p = fromTo lo k p ++ (if p (lo + (k : Nat)) = true then [lo + (k : Nat)] else []) := by
  unfold fromTo
  rw [List.range_succ, List.map_append, List.filter_append]
  congr 1
  simp only [List.map_cons, List.map_nil, List.filter_cons, List.filter_nil]
theorem fromTo_none (lo : Int) (k : Nat) (p : Int → Bool) : ∀ j : Nat, (∀ i : Nat, i < j → p (lo + ((k + i : Nat) : Int)) = false) → fromTo lo (k + j) p = fromTo lo k p
  | 0, _ => rfl
  | j + 1, h => by
    rw [show k + (j + 1) = k + j + 1 by omega, fromTo_one, fromTo_none lo k p j fun i hi => h i (by omega), if_neg (by rw [h j (by omega)]; decide)]
    simp
theorem max3_spec (a b c : Int) : a ≤ max3 a b c ∧ b ≤ max3 a b c ∧ c ≤ max3 a b c ∧ (max3 a b c = a ∨ max3 a b c = b ∨ max3 a b c = c) := by unfold max3 maxI; split <;> split <;> omega
def F_same_places : FD := fun ds m Q => ∃ s q r s' q' r' f t, ds = [spi s q r, spi s' q' r', I f, I t] ∧ q < 4 ∧ q' < 4 ∧ (t - s < 2 ^ 100 ∧ t - s' < 2 ^ 100 ∧ t < 2 ^ 100 ∧ -(2 ^ 100) < f ∧ -(2 ^ 100) < s ∧ t + 1 - max3 f s s' ≤ 20000) ∧
  Q (.d (.tuple ((fromTo (max3 f s s') (t + 1 - max3 f s s').toNat (sameN s q r s' q' r')).map .int))) m
theorem mo_same_places : MoA F_same_places := fun _ _ _ _ h ⟨s, q, r, s', q', r', f, t, e, l, l', b, z⟩ => ⟨s, q, r, s', q', r', f, t, e, l, l', b, h _ _ z⟩
theorem ft_len (lo : Int) (k : Nat) (p : Int → Bool) : (fromTo lo k p).length ≤ k := by
  unfold fromTo
  refine Nat.le_trans (List.length_filter_le _ _) ?_
  simp
theorem ft_same {s : Int} {q : Nat} {r : Bool} {s' : Int} {q' : Nat} {r' : Bool} {lo n t : Int} (hn : lo ≤ n) (c : n ≤ t) (d : apN s q r s' q' r' n = 0) :
    fromTo lo (minI (n + maxI (0 / 2) 1) (t + 1) - lo).toNat (sameN s q r s' q' r') = fromTo lo (n - lo).toNat (sameN s q r s' q' r') ++ [n] := by
  have e : (minI (n + maxI (0 / 2) 1) (t + 1) - lo).toNat = (n - lo).toNat + 1 := by unfold minI maxI; split <;> split <;> omega
  have e2 : lo + ((n - lo).toNat : Nat) = n := by omega
  rw [e, fromTo_one, e2, if_pos (by unfold sameN; exact decide_eq_true d)]
theorem ft_not {s : Int} {q : Nat} {r : Bool} {s' : Int} {q' : Nat} {r' : Bool} {lo n t : Int} (hq : q < 4) (hq' : q' < 4) (hn : lo ≤ n) (h : s ≤ n) (h' : s' ≤ n) (c : n ≤ t) (d : apN s q r s' q' r' n ≠ 0) :
    fromTo lo (n - lo).toNat (sameN s q r s' q' r') = fromTo lo (minI (n + maxI (apN s q r s' q' r' n / 2) 1) (t + 1) - lo).toNat (sameN s q r s' q' r') := by
  have a0 := ap_nn s q r s' q' r' n
  obtain ⟨j, hj, e⟩ : ∃ j : Nat, (((j : Nat) : Int) ≤ maxI (apN s q r s' q' r' n / 2) 1) ∧ (minI (n + maxI (apN s q r s' q' r' n / 2) 1) (t + 1) - lo).toNat = (n - lo).toNat + j := by
    refine ⟨(minI (n + maxI (apN s q r s' q' r' n / 2) 1) (t + 1) - n).toNat, ?_, ?_⟩ <;> unfold minI maxI <;> split <;> split <;> omega
  rw [e]
  refine (fromTo_none lo _ _ j fun i hi => ?_).symm
  unfold sameN
  rw [show lo + (((n - lo).toNat + i : Nat) : Int) = n + (i : Nat) by omega]
  have b := ap_far hq hq' h h' (r := r) (r' := r') i
  refine decide_eq_false fun z => ?_
  rw [z] at b
  unfold maxI at hj
  split at hj <;> omega
theorem map_id2 (l : List Int) : (l.map fun i => I i) = (l.map PyData.int).map Dv.d := by rw [List.map_map]; rfl
end K28
namespace K27
open PySem L2 DL Sp K
open K28 (fromTo fromTo_one sameN apN max3_spec ft_len)
def F__law_beside : FD := fun ds m Q => ∃ a o c s q r, ds = [.r a, spi s q r] ∧ m a = some o ∧ K11.DeckB o c ∧ c < 2 ^ 35 ∧ q < 4 ∧ (-(10 ^ 18) ≤ s ∧ s ≤ 10 ^ 18) ∧ ∀ s' q' r' o', (-(10 ^ 18) ≤ s' ∧ s' ≤ 10 ^ 18) → q' < 4 → K11.DeckB o' (c + 12) → Q (spi s' q' r') (setM m a o')
theorem mo__law_beside : MoA F__law_beside := fun _ _ _ _ h ⟨a, o, c, s, q, r, e, h1, h2, h3, h4, h5, z⟩ => ⟨a, o, c, s, q, r, e, h1, h2, h3, h4, h5, fun s' q' r' o' g1 g2 g3 => h _ _ (z s' q' r' o' g1 g2 g3)⟩
def F__law_due : FD := fun ds m Q => ∃ s q r s' q' r' f t, ds = [spi s q r, spi s' q' r', I f, I t] ∧ q < 4 ∧ q' < 4 ∧ (-(2 ^ 61) < s ∧ -(2 ^ 61) < s' ∧ s < 2 ^ 61 ∧ s' < 2 ^ 61 ∧ t < 2 ^ 100 ∧ t + 1 - f ≤ 20000) ∧
  Q (.d (.tuple ((fromTo (max3 f s s') (t + 1 - max3 f s s').toNat (sameN s q r s' q' r')).map .int))) m
theorem mo__law_due : MoA F__law_due := fun _ _ _ _ h ⟨s, q, r, s', q', r', f, t, e, h1, h2, h3, z⟩ => ⟨s, q, r, s', q', r', f, t, e, h1, h2, h3, h _ _ z⟩
noncomputable def dueN (s : Int) (q : Nat) (r : Bool) (s' : Int) (q' : Nat) (r' : Bool) (n : Int) : Bool := decide (maxI s s' ≤ n) && sameN s q r s' q' r' n
theorem fromTo_skip (lo : Int) (p : Int → Bool) : ∀ (j k : Nat), (∀ i : Nat, i < j → p (lo + (i : Nat)) = false) → fromTo lo (j + k) p = fromTo (lo + (j : Nat)) k p
  | j, 0, h => by
    have e := K28.fromTo_none lo 0 p j (fun i hi => by rw [Nat.zero_add]; exact h i hi)
    rw [Nat.zero_add] at e
    rw [Nat.add_zero, e]; rfl
  | j, k + 1, h => by
    rw [← Nat.add_assoc, fromTo_one, fromTo_one, fromTo_skip lo p j k h, show lo + ((j + k : Nat) : Int) = lo + (j : Nat) + ((k : Nat) : Int) by omega]
theorem fromTo_congr {lo : Int} {p p' : Int → Bool} : ∀ {k : Nat}, (∀ i : Nat, i < k → p (lo + (i : Nat)) = p' (lo + (i : Nat))) → fromTo lo k p = fromTo lo k p'
  | 0, _ => rfl
  | k + 1, h => by rw [fromTo_one, fromTo_one, fromTo_congr fun i hi => h i (by omega), h k (by omega)]
theorem due_eq (s : Int) (q : Nat) (r : Bool) (s' : Int) (q' : Nat) (r' : Bool) (f t : Int) : fromTo f (t + 1 - f).toNat (dueN s q r s' q' r') = fromTo (max3 f s s') (t + 1 - max3 f s s').toNat (sameN s q r s' q' r') := by
  obtain ⟨m1, m2, m3, m4⟩ := max3_spec f s s'
  have hmx : maxI s s' = if s' > s then s' else s := rfl
  by_cases c : max3 f s s' ≤ t + 1
  · have e := fromTo_skip f (dueN s q r s' q' r') (max3 f s s' - f).toNat (t + 1 - max3 f s s').toNat (fun i hi => by
      unfold dueN
      rw [decide_eq_false (by split at hmx <;> omega)]; rfl)
    rw [show (max3 f s s' - f).toNat + (t + 1 - max3 f s s').toNat = (t + 1 - f).toNat by omega, show f + (((max3 f s s' - f).toNat : Nat) : Int) = max3 f s s' by omega] at e
    rw [e]
    refine fromTo_congr fun i hi => ?_
    unfold dueN
    rw [decide_eq_true (by split at hmx <;> omega)]; rfl
  · have e := fromTo_skip f (dueN s q r s' q' r') (t + 1 - f).toNat 0 (fun i hi => by
      unfold dueN
      rw [decide_eq_false (by split at hmx <;> omega)]; rfl)
    rw [Nat.add_zero] at e
    rw [e, show (t + 1 - max3 f s s').toNat = 0 by omega]
    rfl
theorem same_zero {s : Int} {q : Nat} {r : Bool} {s' : Int} {q' : Nat} {r' : Bool} {n x y x' y' : Int} (h : x = px q r (n - s) ∧ y = py q r (n - s)) (h' : x' = px q' r' (n - s') ∧ y' = py q' r' (n - s')) : sameN s q r s' q' r' n = (decide (x = x') && decide (y = y')) := by
  unfold sameN apN
  rw [← h.1, ← h.2, ← h'.1, ← h'.2]
  have a1 : 0 ≤ absI (x - x') ∧ (absI (x - x') = 0 ↔ x = x') := by unfold absI; split <;> omega
  have a2 : 0 ≤ absI (y - y') ∧ (absI (y - y') = 0 ↔ y = y') := by unfold absI; split <;> omega
  by_cases c : x = x' ∧ y = y'
  · rw [decide_eq_true (by omega), decide_eq_true c.1, decide_eq_true c.2]; rfl
  · rw [decide_eq_false (by omega)]
    by_cases c1 : x = x'
    · rw [decide_eq_true c1, decide_eq_false (fun e => c ⟨c1, e⟩)]; rfl
    · rw [decide_eq_false c1]; rfl
theorem same_self (s : Int) (q : Nat) (r : Bool) (n : Int) : sameN s q r s q r n = true := by
  unfold sameN apN
  rw [show px q r (n - s) - px q r (n - s) = 0 by omega, show py q r (n - s) - py q r (n - s) = 0 by omega]
  decide
theorem ft_all (lo : Int) (p : Int → Bool) (h : ∀ n, p n = true) : ∀ k : Nat, fromTo lo k p = (List.range k).map fun i => lo + ((i : Nat) : Int)
  | 0 => rfl
  | k + 1 => by rw [fromTo_one, ft_all lo p h k, if_pos (h _), List.range_succ, List.map_append]; rfl
end K27
namespace DL
open PySem
theorem below_spec (xs : Array Nat) (j : Nat) (hs : xs.toList.Pairwise (· < ·)) :
    SetTable.below xs j ≤ xs.size ∧ (∀ (i v : Nat), xs[i]? = some v → i < SetTable.below xs j → v < j) ∧ (∀ (i v : Nat), xs[i]? = some v → SetTable.below xs j ≤ i → j ≤ v) := by
  have hlt : ∀ (i k v u : Nat), xs[i]? = some v → xs[k]? = some u → i < k → v < u := by
    intro i k v u hi hk h
    rw [← Array.getElem?_toList] at hi hk
    obtain ⟨p1, rfl⟩ := List.getElem?_eq_some_iff.mp hi
    obtain ⟨p2, rfl⟩ := List.getElem?_eq_some_iff.mp hk
    exact List.pairwise_iff_getElem.mp hs i k p1 p2 h
  have key : ∀ (fuel lo hi : Nat), hi ≤ xs.size → lo ≤ hi → hi - lo ≤ fuel → (∀ (i v : Nat), xs[i]? = some v → i < lo → v < j) → (∀ (i v : Nat), xs[i]? = some v → hi ≤ i → j ≤ v) →
      SetTable.below.go xs j fuel lo hi ≤ xs.size ∧ (∀ (i v : Nat), xs[i]? = some v → i < SetTable.below.go xs j fuel lo hi → v < j) ∧ (∀ (i v : Nat), xs[i]? = some v → SetTable.below.go xs j fuel lo hi ≤ i → j ≤ v) := by
    intro fuel
    induction fuel with
    | zero =>
      intro lo hi h1 h2 h3 ha hb
      have : lo = hi := by omega
      subst this
      exact ⟨h1, ha, hb⟩
    | succ n ih =>
      intro lo hi h1 h2 h3 ha hb
      unfold SetTable.below.go
      by_cases c : lo < hi
      · rw [if_pos c]
        have hm : (lo + hi) / 2 < xs.size := by omega
        have hget : xs[(lo + hi) / 2]? = some xs[(lo + hi) / 2] := Array.getElem?_eq_getElem hm
        have hgd : xs.getD ((lo + hi) / 2) j = xs[(lo + hi) / 2] := by simp [Array.getD, hm]
        dsimp only
        rw [hgd]
        by_cases d : xs[(lo + hi) / 2] < j
        · rw [if_pos d]
          refine ih _ _ h1 (by omega) (by omega) (fun i v hq hl => ?_) hb
          rcases Nat.lt_or_ge i ((lo + hi) / 2) with e | e
          · exact Nat.lt_trans (hlt _ _ _ _ hq hget e) d
          · have : i = (lo + hi) / 2 := by omega
            subst this
            rw [hget] at hq; cases hq; exact d
        · rw [if_neg d]
          refine ih _ _ (by omega) (by omega) (by omega) ha (fun i v hq hl => ?_)
          rcases Nat.lt_or_ge ((lo + hi) / 2) i with e | e
          · have := hlt _ _ _ _ hget hq e; omega
          · have : i = (lo + hi) / 2 := by omega
            subst this
            rw [hget] at hq; cases hq; omega
      · rw [if_neg c]
        have : lo = hi := by omega
        subst this
        exact ⟨h1, ha, hb⟩
  exact key xs.size 0 xs.size (Nat.le_refl _) (Nat.zero_le _) (by omega) (fun i v _ h => absurd h (Nat.not_lt_zero _)) (fun i v hi h => by
    have := (Array.getElem?_eq_some_iff.mp hi).1; omega)
structure Tk (w : World) (t : SetTable) : Prop where
  led : t.led = !w.params.followText "set-order"
  dum : t.dummies = #[]
  ris : t.place.toList.Pairwise (· < ·)
variable {w : World}
theorem Tk.fresh : Tk w (.fresh 0 0 (!w.params.followText "set-order")) := ⟨rfl, rfl, by simp [SetTable.fresh]⟩
theorem Tk.stand {t : SetTable} (h : Tk w t) (n : Nat) : Tk w (t.standIn n) :=
  ⟨h.led, rfl, by simpa [SetTable.standIn] using List.pairwise_lt_range⟩
theorem ins_rising {xs : Array Nat} {j : Nat} (hs : xs.toList.Pairwise (· < ·)) (hn : xs[SetTable.below xs j]? ≠ some j) : (SetTable.insertAt xs (SetTable.below xs j) j).toList.Pairwise (· < ·) := by
  obtain ⟨h1, h2, h3⟩ := below_spec xs j hs
  rw [SetTable.toList_insertAt, List.pairwise_append]
  have hd : ∀ v ∈ xs.toList.drop (SetTable.below xs j), j < v := by
    intro v hv
    obtain ⟨i, hi⟩ := List.getElem?_of_mem hv
    rw [List.getElem?_drop, Array.getElem?_toList] at hi
    have := h3 _ _ hi (by omega)
    rcases Nat.lt_or_ge j v with c | c
    · exact c
    · exfalso
      have e : v = j := by omega
      subst e
      rcases Nat.eq_zero_or_pos i with rfl | hp
      · exact hn hi
      · have hb : SetTable.below xs v < xs.size := by have := (Array.getElem?_eq_some_iff.mp hi).1; omega
        have q1 := h3 _ _ (Array.getElem?_eq_getElem hb) (Nat.le_refl _)
        obtain ⟨p2, q2⟩ := Array.getElem?_eq_some_iff.mp hi
        have := List.pairwise_iff_getElem.mp hs (SetTable.below xs v) (SetTable.below xs v + i) (by simpa using hb) (by simpa using p2) (by omega)
        simp only [Array.getElem_toList] at this
        omega
  refine ⟨hs.sublist (List.take_sublist _ _), List.pairwise_cons.mpr ⟨hd, hs.sublist (List.drop_sublist _ _)⟩, fun a ha b hb => ?_⟩
  obtain ⟨i, hi⟩ := List.getElem?_of_mem ha
  have hi2 : i < SetTable.below xs j := by
    have := (List.getElem?_eq_some_iff.mp hi).1
    rw [List.length_take] at this; omega
  rw [List.getElem?_take_of_lt hi2, Array.getElem?_toList] at hi
  have := h2 _ _ hi hi2
  rcases List.mem_cons.mp hb with rfl | hb
  · exact this
  · have := hd b hb; omega
theorem Tk.put {t : SetTable} (h : Tk w t) {j : Nat} (hj : t.slot j = .empty) : Tk w (t.put j).1 := by
  refine ⟨h.led, ?_, ?_⟩
  · show (if SetTable.has t.dummies j = true then _ else t.dummies) = #[]
    rw [h.dum]
    simp [SetTable.has]
  · show (SetTable.insertAt t.place (SetTable.below t.place j) j).toList.Pairwise (· < ·)
    refine ins_rising h.ris fun e => ?_
    unfold SetTable.slot at hj
    dsimp only at hj
    rw [e] at hj
    simp at hj
theorem Tk.or {t : SetTable} (h : Tk w t) (n : Nat) : Tk w (t.orStandIn n) := by
  unfold SetTable.orStandIn
  split
  · exact h
  · exact h.stand n
theorem filterMap_rising {f : Nat → Option (Nat × Nat)} (hf : ∀ j p, f j = some p → p.1 = j) : ∀ (l : List Nat), l.Pairwise (· < ·) → ((l.filterMap f).map (·.1)).Pairwise (· < ·) := by
  intro l
  induction l with
  | nil => intro _; simp
  | cons a t ih =>
    intro h
    obtain ⟨h1, h2⟩ := List.pairwise_cons.mp h
    rw [List.filterMap_cons]
    split
    · exact ih h2
    · rename_i p hp
      rw [List.map_cons, List.pairwise_cons]
      refine ⟨fun b hb => ?_, ih h2⟩
      obtain ⟨q, hq, rfl⟩ := List.mem_map.mp hb
      obtain ⟨c, hc, hq⟩ := List.mem_filterMap.mp hq
      rw [hf _ _ hp, hf _ _ hq]
      exact h1 c hc
theorem Tk.laid {t : SetTable} (h : Tk w t) {es : Array Int} {n : Nat} {t' : SetTable} {order : Array Nat} (e : t.relaid es n = some (t', order)) : Tk w t' := by
  unfold SetTable.relaid SetTable.laid at e
  obtain ⟨owner, _, e⟩ := Option.bind_eq_some_iff.mp e
  simp only [pure, Option.some.injEq, Prod.mk.injEq] at e
  obtain ⟨rfl, _⟩ := e
  refine ⟨h.led, rfl, ?_⟩
  dsimp only
  refine filterMap_rising (f := fun j => (owner.getD j none).map (j, ·)) (fun j p e => ?_) _ List.pairwise_lt_range
  obtain ⟨k, _, rfl⟩ := Option.map_eq_some_iff.mp e
  rfl
end DL
namespace DL
open PySem PySem.Spec PyProof.Rows
def SetI (P : Program) (w : World) (a : Addr) (ks : List Int) (h : Heap) : Prop :=
  ∃ o es ep t, h.get? a = some o ∧ o.ExactSet ∧ o.data = .set es ep t ∧ ElemsOf (intKind P w) es.toList ∧ es.size < scanBound ∧ t.fits es.size = true ∧ Tk w t ∧
    ∃ l : List Int, l.Perm ks ∧ IntsAre (es.toList.map (·.2)) l
theorem SetI.typeIs {P : Program} {w : World} {a : Addr} {ks : List Int} {s : Shared} (h : SetI P w a ks s.heap) : s.TypeIs (.ref a) "set" := by
  obtain ⟨o, _, _, _, ho, hx, _⟩ := h
  exact ⟨o, ho, hx.1⟩
theorem SetI.at {P : Program} {w : World} {a : Addr} {ks : List Int} {h h' : Heap} (x : SetI P w a ks h) (k : ∀ o, h.get? a = some o → h'.get? a = some o) : SetI P w a ks h' := by
  obtain ⟨o, es, ep, t, ho, r⟩ := x
  exact ⟨o, es, ep, t, k o ho, r⟩
section
variable {P : Program} {w : World} {A : Around} {E : Value → Shared → Prop} {s : Shared} {a : Addr}
end
end DL
namespace DL
open PySem PySem.Spec PyProof.Rows
section
variable {P : Program} {w : World} {A : Around} {R : Result → Shared → Prop} {I : Addr} {fp wr : List Addr} {G : Array GenState → Array GenState → Prop} {n : Nat} {Pv : Nat → Value → Prop} {St : Nat → Shared → Prop}
end
section
variable {P : Program} {w : World} {A : Around} {E : Value → Shared → Prop} {s : Shared}
end
end DL
namespace DL
open PySem PySem.Spec PyProof.Rows
section
variable {P : Program} {w : World} {A : Around} {E : Value → Shared → Prop} {s : Shared} {a it : Addr}
def SIt (h : Heap) (it a : Addr) (f : Value) (i n ep : Nat) : Prop :=
  ∃ o, h.get? it = some o ∧ o.cls = .type "set_iterator" ∧ o.data = .fields #[f, .int i 0, .ref a, .int n 0, .int ep 0]
theorem SIt.typeIs {f : Value} {i n ep : Nat} (x : SIt s.heap it a f i n ep) : s.TypeIs (.ref it) "set_iterator" := let ⟨o, ho, hc, _⟩ := x; ⟨o, ho, hc⟩
theorem SIt.at {h h' : Heap} {f : Value} {i n ep : Nat} (x : SIt h it a f i n ep) (k : ∀ o, h.get? it = some o → h'.get? it = some o) : SIt h' it a f i n ep := let ⟨o, ho, r⟩ := x; ⟨o, k o ho, r⟩
def SOb (h : Heap) (a : Addr) (es : Array (Int × Value)) (ep : Nat) (t : SetTable) : Prop := ∃ o, h.get? a = some o ∧ o.ExactSet ∧ o.data = .set es ep t ∧ t.fits es.size = true
theorem SOb.at {h h' : Heap} {es : Array (Int × Value)} {ep : Nat} {t : SetTable} (x : SOb h a es ep t) (k : ∀ o, h.get? a = some o → h'.get? a = some o) : SOb h' a es ep t := let ⟨o, ho, r⟩ := x; ⟨o, k o ho, r⟩
end
end DL
namespace DL
open PySem PySem.Spec PyProof.Rows
section
variable {P : Program} {w : World} {A : Around} {E : Value → Shared → Prop} {s : Shared} {a it : Addr}
end
end DL
namespace DL
open PySem PySem.Spec PyProof.Rows
section
variable {P : Program} {w : World} {A : Around} {E : Value → Shared → Prop} {s : Shared} {a : Addr}
end
end DL
namespace DL
open PySem PySem.Spec PyProof.Rows
section
variable {P : Program} {w : World} {A : Around} {E : Value → Shared → Prop} {s : Shared} {a : Addr}
end
end DL
namespace DL
open PySem PySem.Spec PyProof.Rows L2
section
variable {X : Cx}
end
end DL
namespace DL
open PySem PySem.Spec PyProof.Rows L2
section
variable {X : Cx} {elt iter iter1 : Expr} {scope : Scope} {pos ppos ppos1 px py : Pos} {kk : Nat} {w w1 : TId} {te : TD} {x y z : Str} {i j l : Nat}
end
section
variable {X : Cx} {elt iter iter1 : Expr} {scope : Scope} {pos ppos ppos1 pz spos : Pos} {w w1 : TId} {te : TD} {x y z : Str} {i j k : Nat}
end
section
variable {X : Cx} {o e : Expr} {to te : TD} {pos apos : Pos}
end
end DL
namespace DL
open PySem PySem.Spec PyProof.Rows L2
section
variable {prog : Program} {w : World} {A : Around} {E : Value → Shared → Prop} {s : Shared}
end
section
variable {X : Cx} {a b c d e5 : Expr} {t : TAd} {pos : Pos}
end
end DL
namespace DL
open PySem PySem.Spec PyProof.Rows L2
section
variable {X : Cx} {a b c : Expr} {ta tb tc : TD} {pos : Pos}
end
section
variable {X : Cx} {o e : Expr} {to te : TD} {pos apos : Pos}
end
end DL
namespace DL
open PySem PySem.Spec PyProof.Rows L2
section
variable {X : Cx} {pos : Pos} {a b : Expr} {ta : TAd}
end
section
variable {X : Cx}
variable {elt iter : Expr} {ifs : List Expr} {scope : Scope} {pos ppos : Pos} {w : TId} {tt : TBd} {te : TD} {x : Str} {i : Nat}
end
end DL
namespace DL
open PySem PySem.Spec PyProof.Rows L2
theorem turn_long {P : Program} {w : World} {K : PySem.W.Frag} {tg : Expr} (it : Addr) (lo : Int) (n : Nat) : Turn P w K tg (Itr lo n) [it] it (fun i h => IsLongIter h it (lo + (i : Nat) * 1) ((n : Int) - (i : Nat)) 1) where
  mem := by simp
  obj := fun i h st b hb => by
    obtain rfl : b = it := by simpa using hb
    exact ⟨_, st, fun v z => nomatch z⟩
  keep := fun i h h' st k => k it (by simp) _ st
  item := by
    intro X hP hw hK hc i pins s σ H E I hf st hg
    subst hP hw hK
    obtain ⟨f0, f1, f2, f3, f4, f5⟩ := hf it (by simp)
    have W := Walks.longrange (prog := X.prog) (w := X.w) (I.ok.hd hc) it lo 1 n
    refine W.item i s _ _ hg st fun v h' tk hv st' kk => ?_
    obtain ⟨t, rfl⟩ := hv
    have I1 : Inv X pins σ H { s with heap := h', toks := tk } := I.turned (fun b o hb e => kk b o (by simpa using hb) e) f0 f1 f3 f4 f5
    refine ⟨_, rfl, go_of (s := { s with heap := h', toks := tk }) (n := "longrange_iterator") st' rfl rfl (by decide) ⟨.int (lo + i), H, I1, ⟨t, by rw [Int.mul_one]⟩, ⟨rfl, rfl⟩, st', fun b hb => (hf b hb).1⟩⟩
  done := by
    intro X hP hw hK hc i pins s σ H E I hf st hg
    subst hP hw hK
    obtain ⟨f0, f1, f2, f3, f4, f5⟩ := hf it (by simp)
    exact wpAny_pyNext_long_end (I.ok.hd hc) st (by have : n ≤ i := hg; omega) fun h' eb => ⟨rfl, I.turned (t' := s.toks) (fun b o hb e => eb b o hb e) f0 f1 f3 f4 f5⟩
  self := fun _ _ _ _ _ st h => wpAny_pyIter_longiter st h
section
variable {X : Cx} {tg : Expr}
theorem range_itW {pins : List (Addr × Obj)} {σ : L2.St} {H : Hp} {s : Shared} {R : It → Hp → Prop} {E : Value → Shared → Prop} {lo hi : Int} {t u v : Tok} {tk : Nat} (I : Inv X pins σ H s)
    (q : R (Itr lo (hi - lo).toNat) H) : wpAny (model X.prog X.w) X.A (pyIter (.ref s.heap.objs.size)) (PIE X pins σ tg R) E { s with heap := s.heap.push { cls := .type "range", data := .fields #[.int lo t, .int hi u, .int 1 v] }, toks := tk } := by
  have I1 : Inv X pins σ H { s with heap := s.heap.push { cls := .type "range", data := .fields #[.int lo t, .int hi u, .int 1 v] }, toks := tk } := I.kept fun b o e => Heap.get?_push_of_some _ e
  have e1 : lo + ((0 : Nat) : Int) * 1 = lo := by simp
  have e2 : (((hi - lo).toNat : Nat) : Int) - ((0 : Nat) : Int) = Builtin.Range.rangeSize lo hi 1 := by rw [rangeSize_one]; split <;> omega
  have fp : ∀ b ∈ [(s.heap.push { cls := .type "range", data := .fields #[.int lo t, .int hi u, .int 1 v] }).objs.size], _ := fun b hb => by
    obtain rfl : b = (s.heap.push { cls := .type "range", data := .fields #[.int lo t, .int hi u, .int 1 v] }).objs.size := by simpa using hb
    exact I1.fpOk (Nat.le_refl _) (I1.hok.fresh (Nat.le_refl _))
  cases hs : Builtin.Range.small lo hi 1 with
  | true =>
    refine wpAny_pyIter_range (IsRange.new ..) hs ?_
    refine ⟨_, [_], _, _, H, rfl, I1.kept (t' := tk) fun b o e => Heap.get?_push_of_some _ e, turn_range _ lo (hi - lo).toNat, ?_, fp, q⟩
    show IsRangeIter _ _ (lo + ((0 : Nat) : Int) * 1) ((((hi - lo).toNat : Nat) : Int) - ((0 : Nat) : Int)) 1
    rw [e1, e2]
    exact Heap.get?_push_size _ rfl
  | false =>
    refine wpAny_pyIter_longrange (IsRange.new ..) hs ?_
    refine ⟨_, [_], _, _, H, rfl, I1.kept (t' := tk) fun b o e => Heap.get?_push_of_some _ e, turn_long _ lo (hi - lo).toNat, ?_, fp, q⟩
    show IsLongIter _ _ (lo + ((0 : Nat) : Int) * 1) ((((hi - lo).toNat : Nat) : Int) - ((0 : Nat) : Int)) 1
    rw [e1, e2]
    exact Heap.get?_push_size _ rfl
def iRngW (ta : TA) : TI := fun σ H R => ta σ H fun vs H1 => ∃ i j : Int, vs = [.int i, .int j] ∧ R (Itr i (j - i).toNat) H1
theorem pi_rangeW {a b : Expr} {ta : TA} {p pos : Pos} (hg : Gl X "range") (hm : X.mg "range" = none) (ha : PA X [a, b] ta) (hs : starEach [a, b] X.env = [(false, eval a X.env), (false, eval b X.env)] := by rfl) (hs2 : starEach [b] X.env = [(false, eval b X.env)] := by rfl) :
    PI X tg (.Call (.Name "range" p) [a, b] [] pos) (iRngW ta) := by
  intro pins s σ H R I h
  refine Call_ (ld_blt I hg hm boot_range (PyProof.Rows.callWith_type1 (thn (ha pos pins s σ H _ I h) fun us s1 ⟨vs, H1, I1, r1, q1⟩ => ?_) (by rw [hs, hs2]) (by rw [hs2]; rfl)))
  obtain ⟨i, j, e, q⟩ := q1
  subst e
  cases r1 with
  | cons r rr =>
    cases rr with
    | cons r' rr =>
      cases rr
      obtain ⟨t, rfl⟩ := r
      obtain ⟨t', rfl⟩ := r'
      exact call_range_2 (range_itW I1 q)
def dRngW (ta : TAd) : TId := fun δ m R => ta δ m fun ds m1 => ∃ i j : Int, ds = [.d (.int i), .d (.int j)] ∧ R ((List.range (j - i).toNat).map fun k => .d (.int (i + ((k : Nat) : Int)))) (fun _ => True) m1
theorem di_rangeW {a b : Expr} {ta : TAd} {p pos : Pos} (hg : Gl X "range") (hm : X.mg "range" = none) (ha : DA X [a, b] ta) (hs : starEach [a, b] X.env = [(false, eval a X.env), (false, eval b X.env)] := by rfl) (hs2 : starEach [b] X.env = [(false, eval b X.env)] := by rfl) : DI X tg (.Call (.Name "range" p) [a, b] [] pos) (dRngW ta) := by
  refine ⟨fun δ m R R' h q => ha.mono δ m _ _ (fun ds m1 ⟨j, k, e, z⟩ => ⟨j, k, e, h _ _ _ z⟩) q, PI.imp (pi_rangeW hg hm ha.pa hs hs2) fun σ H R ⟨I, δ, m, ok, rl, q⟩ => ?_⟩
  refine ⟨I, δ, m, ok, rl, ha.mono δ m _ _ (fun ds m1 ⟨lo, j, e, z⟩ vs H1 I1 s1 o1 i1 => ?_) q⟩
  subst e
  cases i1 with
  | cons h1 ht =>
    cases ht with
    | cons h2 ht =>
    cases ht
    have h1 := h1.int
    have h2 := h2.int
    subst h1 h2
    refine ⟨lo, j, rfl, z _ H1 I1 s1 o1 ⟨fun i H I' m _ _ _ hi => ?_, fun i H I' m x H' _ ok' _ y => ?_, fun H I' m _ _ _ => ?_⟩⟩
    · show i < (j - lo).toNat
      simpa [-Int.lt_toNat] using hi
    · obtain ⟨rfl, rfl⟩ := y
      refine ⟨I', .d (.int (lo + (i : Nat))), Same.refl _, ok', fun hi => ⟨?_, isI _⟩⟩
      rw [List.length_map, List.length_range] at hi
      rw [List.getElem?_map, List.getElem?_range hi]; rfl
    · show (j - lo).toNat ≤ _
      simp
end
end DL
namespace DL
open PySem PySem.Spec PyProof.Rows L2
open AutoSeq1 (wpAny_loadPart')
section
variable {X : Cx} {pos : Pos}
end
end DL
set_option maxHeartbeats 4000000
namespace K27
open PySem L2 DL Sp
open K hiding F__law_caught mo__law_caught F__law_deck F__law_spiral mo__law_deck mo__law_spiral F_law mo_law
open K11 hiding F__law_deck F__law_draw F__law_wide F__law_spiral F__law_steps F_law mo__law_deck mo__law_draw mo__law_wide mo__law_spiral mo__law_steps mo_law
open KC
open KB
open K10 (F__law_number mo__law_number kvsN kvs_succ look_kvs kvs_new kvs_len rot_tp rotN po_by po_zero for_out forB_its isT_it isT_is)
open K18 (isT_ib isT_ii isT_tt)
open K28 (F_same_places mo_same_places F_streets_between mo_streets_between fromTo fromTo_one sameN apN max3_spec ft_len ft_same ft_not ap_nn map_id2)
abbrev F_law : DL.FD := KC.F_law
def top (i : Nat) : Stmt := PySem.Challenge.pw_laidround_k27_same_places.main.body.getD i (.Pass ⟨0, 0, 0, 0⟩)
abbrev s_offset_of : Stmt := top 5
abbrev s_whole_root : Stmt := top 6
abbrev s_plain_ring : Stmt := top 7
abbrev s_plain_place : Stmt := top 8
abbrev s_quarters_of : Stmt := top 9
abbrev s_turned_left : Stmt := top 10
abbrev s_mirrored_by : Stmt := top 11
abbrev s_from_plain : Stmt := top 12
abbrev s_place_of : Stmt := top 14
abbrev s_streets_between : Stmt := top 16
abbrev s_same_places : Stmt := top 18
abbrev s__law_deck : Stmt := top 20
abbrev s__law_draw : Stmt := top 21
abbrev s__law_same : Stmt := top 22
abbrev s__law_wide : Stmt := top 23
abbrev s__law_spiral : Stmt := top 24
abbrev s__law_steps : Stmt := top 25
abbrev s__law_beside : Stmt := top 31
abbrev s__law_runs_steps : Stmt := top 26
abbrev s__law_runs : Stmt := top 27
abbrev s__law_to_and_fro : Stmt := top 28
abbrev s__law_turned : Stmt := top 29
abbrev s__law_place : Stmt := top 30
abbrev s__law_due : Stmt := top 32
abbrev s_law : Stmt := top 33
structure Tx (K : PySem.W.Frag) (mg : Str → Option Value) where
  a_offset_of : Addr
  fd_offset_of : FuncData
  F_offset_of : Fun K "offset_of" "offset_of" s_offset_of a_offset_of fd_offset_of
  m_offset_of : mg "offset_of" = some (.ref a_offset_of)
  n_offset_of : Binds K fd_offset_of ["spiral", "number"] []
  a_whole_root : Addr
  fd_whole_root : FuncData
  F_whole_root : Fun K "whole_root" "whole_root" s_whole_root a_whole_root fd_whole_root
  m_whole_root : mg "whole_root" = some (.ref a_whole_root)
  n_whole_root : Binds K fd_whole_root ["square"] []
  a_plain_ring : Addr
  fd_plain_ring : FuncData
  F_plain_ring : Fun K "plain_ring" "plain_ring" s_plain_ring a_plain_ring fd_plain_ring
  m_plain_ring : mg "plain_ring" = some (.ref a_plain_ring)
  n_plain_ring : Binds K fd_plain_ring ["offset"] []
  a_plain_place : Addr
  fd_plain_place : FuncData
  F_plain_place : Fun K "plain_place" "plain_place" s_plain_place a_plain_place fd_plain_place
  m_plain_place : mg "plain_place" = some (.ref a_plain_place)
  n_plain_place : Binds K fd_plain_place ["offset"] []
  a_quarters_of : Addr
  fd_quarters_of : FuncData
  F_quarters_of : Fun K "quarters_of" "quarters_of" s_quarters_of a_quarters_of fd_quarters_of
  m_quarters_of : mg "quarters_of" = some (.ref a_quarters_of)
  n_quarters_of : Binds K fd_quarters_of ["heading"] []
  a_turned_left : Addr
  fd_turned_left : FuncData
  F_turned_left : Fun K "turned_left" "turned_left" s_turned_left a_turned_left fd_turned_left
  m_turned_left : mg "turned_left" = some (.ref a_turned_left)
  n_turned_left : Binds K fd_turned_left ["place", "quarters"] []
  a_mirrored_by : Addr
  fd_mirrored_by : FuncData
  F_mirrored_by : Fun K "mirrored_by" "mirrored_by" s_mirrored_by a_mirrored_by fd_mirrored_by
  m_mirrored_by : mg "mirrored_by" = some (.ref a_mirrored_by)
  n_mirrored_by : Binds K fd_mirrored_by ["turn", "place"] []
  a_from_plain : Addr
  fd_from_plain : FuncData
  F_from_plain : Fun K "from_plain" "from_plain" s_from_plain a_from_plain fd_from_plain
  m_from_plain : mg "from_plain" = some (.ref a_from_plain)
  n_from_plain : Binds K fd_from_plain ["spiral", "place"] []
  a_place_of : Addr
  fd_place_of : FuncData
  F_place_of : Fun K "place_of" "place_of" s_place_of a_place_of fd_place_of
  m_place_of : mg "place_of" = some (.ref a_place_of)
  n_place_of : Binds K fd_place_of ["spiral", "number"] []
  a_streets_between : Addr
  fd_streets_between : FuncData
  F_streets_between : Fun K "streets_between" "streets_between" s_streets_between a_streets_between fd_streets_between
  m_streets_between : mg "streets_between" = some (.ref a_streets_between)
  n_streets_between : Binds K fd_streets_between ["place", "other"] []
  a_same_places : Addr
  fd_same_places : FuncData
  F_same_places : Fun K "same_places" "same_places" s_same_places a_same_places fd_same_places
  m_same_places : mg "same_places" = some (.ref a_same_places)
  n_same_places : Binds K fd_same_places ["one", "other", "first", "last"] []
  a__law_deck : Addr
  fd__law_deck : FuncData
  F__law_deck : Fun K "_law_deck" "_law_deck" s__law_deck a__law_deck fd__law_deck
  m__law_deck : mg "_law_deck" = some (.ref a__law_deck)
  n__law_deck : Binds K fd__law_deck ["script"] []
  a__law_draw : Addr
  fd__law_draw : FuncData
  F__law_draw : Fun K "_law_draw" "_law_draw" s__law_draw a__law_draw fd__law_draw
  m__law_draw : mg "_law_draw" = some (.ref a__law_draw)
  n__law_draw : Binds K fd__law_draw ["deck", "most"] []
  a__law_same : Addr
  fd__law_same : FuncData
  F__law_same : Fun K "_law_same" "_law_same" s__law_same a__law_same fd__law_same
  m__law_same : mg "_law_same" = some (.ref a__law_same)
  n__law_same : Binds K fd__law_same ["found", "due"] []
  a__law_wide : Addr
  fd__law_wide : FuncData
  F__law_wide : Fun K "_law_wide" "_law_wide" s__law_wide a__law_wide fd__law_wide
  m__law_wide : mg "_law_wide" = some (.ref a__law_wide)
  n__law_wide : Binds K fd__law_wide ["deck", "most"] []
  a__law_spiral : Addr
  fd__law_spiral : FuncData
  F__law_spiral : Fun K "_law_spiral" "_law_spiral" s__law_spiral a__law_spiral fd__law_spiral
  m__law_spiral : mg "_law_spiral" = some (.ref a__law_spiral)
  n__law_spiral : Binds K fd__law_spiral ["deck"] []
  a__law_steps : Addr
  fd__law_steps : FuncData
  F__law_steps : Fun K "_law_steps" "_law_steps" s__law_steps a__law_steps fd__law_steps
  m__law_steps : mg "_law_steps" = some (.ref a__law_steps)
  n__law_steps : Binds K fd__law_steps ["deck", "start"] []
  a__law_beside : Addr
  fd__law_beside : FuncData
  F__law_beside : Fun K "_law_beside" "_law_beside" s__law_beside a__law_beside fd__law_beside
  m__law_beside : mg "_law_beside" = some (.ref a__law_beside)
  n__law_beside : Binds K fd__law_beside ["deck", "one"] []
  a__law_runs_steps : Addr
  fd__law_runs_steps : FuncData
  F__law_runs_steps : Fun K "_law_runs_steps" "_law_runs_steps" s__law_runs_steps a__law_runs_steps fd__law_runs_steps
  m__law_runs_steps : mg "_law_runs_steps" = some (.ref a__law_runs_steps)
  n__law_runs_steps : Binds K fd__law_runs_steps ["runs", "arms"] []
  a__law_runs : Addr
  fd__law_runs : FuncData
  F__law_runs : Fun K "_law_runs" "_law_runs" s__law_runs a__law_runs fd__law_runs
  m__law_runs : mg "_law_runs" = some (.ref a__law_runs)
  n__law_runs : Binds K fd__law_runs ["steps", "arms"] []
  a__law_to_and_fro : Addr
  fd__law_to_and_fro : FuncData
  F__law_to_and_fro : Fun K "_law_to_and_fro" "_law_to_and_fro" s__law_to_and_fro a__law_to_and_fro fd__law_to_and_fro
  m__law_to_and_fro : mg "_law_to_and_fro" = some (.ref a__law_to_and_fro)
  n__law_to_and_fro : Binds K fd__law_to_and_fro ["many", "arm"] []
  a__law_turned : Addr
  fd__law_turned : FuncData
  F__law_turned : Fun K "_law_turned" "_law_turned" s__law_turned a__law_turned fd__law_turned
  m__law_turned : mg "_law_turned" = some (.ref a__law_turned)
  n__law_turned : Binds K fd__law_turned ["spiral", "place"] []
  a__law_place : Addr
  fd__law_place : FuncData
  F__law_place : Fun K "_law_place" "_law_place" s__law_place a__law_place fd__law_place
  m__law_place : mg "_law_place" = some (.ref a__law_place)
  n__law_place : Binds K fd__law_place ["spiral", "arms", "number"] []
  a__law_due : Addr
  fd__law_due : FuncData
  F__law_due : Fun K "_law_due" "_law_due" s__law_due a__law_due fd__law_due
  m__law_due : mg "_law_due" = some (.ref a__law_due)
  n__law_due : Binds K fd__law_due ["one", "other", "first", "last"] []
  a_law : Addr
  fd_law : FuncData
  F_law : Fun K "law" "law" s_law a_law fd_law
  m_law : mg "law" = some (.ref a_law)
  n_law : Binds K fd_law ["script"] []
  b_abs : mg "abs" = none
  b_bool : mg "bool" = none
  b_int : mg "int" = none
  b_isinstance : mg "isinstance" = none
  b_len : mg "len" = none
  b_max : mg "max" = none
  b_min : mg "min" = none
  b_range : mg "range" = none
  b_str : mg "str" = none
  b_tuple : mg "tuple" = none
  b_zip : mg "zip" = none
  a_HEADINGS : Addr
  m_HEADINGS : mg "HEADINGS" = some (.ref a_HEADINGS)
  d_HEADINGS : ∀ I, Dp K I (.ref a_HEADINGS) (.tuple [.str "e", .str "n", .str "w", .str "s"])
  t_HEADINGS : Array Value
  c_HEADINGS : Nat
  l_HEADINGS : Array (Option Value)
  k_HEADINGS : K.lookup a_HEADINGS = some ⟨.type "tuple", none, .seq t_HEADINGS c_HEADINGS, l_HEADINGS⟩
  s_HEADINGS : ∀ I, SqT K I a_HEADINGS [.str "e", .str "n", .str "w", .str "s"]
  a_HEADINGS_all : ∀ I, DpAll K I [.str "e", .str "n", .str "w", .str "s"] [.str "e", .str "n", .str "w", .str "s"]
section
variable {P : Program} {w : World} {K : PySem.W.Frag} {mg : Str → Option Value} {base : Heap}
theorem sc_offset_of : FnScope ["spiral", "number", "start"] ["spiral", "number"] (defScope s_offset_of) := ⟨rfl, rfl, rfl, by decide +kernel, rfl, by decide +kernel, by decide +kernel⟩
theorem ok_offset_of (T : Tx K mg) : FnOk P w K mg base CX0 1 T.a_offset_of T.fd_offset_of ["spiral", "number"] (spD K F_offset_of) := by
  refine Fun.okD T.F_offset_of sc_offset_of mo_offset_of (fun ds m Q h => ?_) (fun cdv A outer s H E hr => ?_)
  · unfold F_offset_of at h; obtain ⟨s, q, r, n, rfl, l, z⟩ := h; rfl
  · refine ⟨_, (dss_cons (ds_set (i := 2) sc_offset_of.nd rfl (by first | exact Or.inl rfl | exact Or.inr rfl) (de_ix (dv 0) de_int))
      (dss_cons (ds_if (dt_lt (dv 1) (dv 2)) (dss_one ds_never) dss_nil)
      (dss_one (ds_ret (de_sub (dv 1) (dv 2)))))), fun ds m Q h => ?_⟩
    obtain ⟨s, q, r, n, rfl, l, z⟩ := h
    try simp only [sSeq, sAsg, sRet, sIf, sDrop, sNext, sNever, dOp, dUn, dVar, dC, dTest, isBool, dAnd, dOr, dNot, dAndV, dOrV, dNotV, dIf, dCons, dNil, dTup, dLst, dLstM, datas, dCall, dCB, gI0, gI, gB0, g1I, gAdd, gEqD, gNeD, gIx, gIn, g1A, g2A, gInt, gLen, gTuple, gSum, gBest, dSl, dNoPart, dPart, dgName, dgTup, dgCons, dgNil, dgSub, gSetI, dIndexT, dChain, startD, List.map_cons, List.map_nil, List.length_cons, List.length_nil, List.replicate, List.append, List.cons_append, List.nil_append, List.getElem?_cons_zero, List.getElem?_cons_succ, List.set_cons_zero, List.set_cons_succ, Option.some.injEq, Dv.d.injEq, Dv.r.injEq, PyData.tuple.injEq, PyData.list.injEq, PyData.str.injEq, PyData.int.injEq, exists_eq_left', Option.map_some, Nat.zero_add, Nat.reduceAdd, Nat.reduceSub, true_and, and_true, exists_and_left, at0, at1, at2, at3, at4, eqv_int, shaped_int, eqv_pr, shaped_pr, bes, intsD, in4, flat4, flatI, Bool.not_eq_true', decide_eq_false_iff_not, not_true_eq_false, if_true, if_false, Bool.not_true, Bool.not_false, Bool.false_eq_true, Bool.true_eq_false, Bool.or_eq_false_iff,  shaped_tn, shaped_hd, shaped_r, decide_eq_true_eq, sizeLine_eq, Nat.reduceLeDiff, Int.reduceToNat, Int.reducePow, Int.reduceMul, Int.reduceAdd, Int.reduceSub, Int.reduceNeg, Int.reduceMod, setM_same, MO.lst.injEq, setM_setM, ix0, ix1, ix2, ix3, ix4]
    rw [if_neg (by omega)]
    exact z
theorem sc_whole_root : FnScope ["square", "root", "better"] ["square"] (defScope s_whole_root) := ⟨rfl, rfl, rfl, by decide +kernel, rfl, by decide +kernel, by decide +kernel⟩
theorem ok_whole_root (T : Tx K mg) : FnOk P w K mg base CX0 1 T.a_whole_root T.fd_whole_root ["square"] (spD K F_whole_root) := by
  refine Fun.okD T.F_whole_root sc_whole_root mo_whole_root (fun ds m Q h => ?_) (fun cdv A outer s H E hr => ?_)
  · unfold F_whole_root at h; obtain ⟨n, rfl, l0, l1, z⟩ := h; rfl
  · refine ⟨_, (dss_cons (ds_if (dt_eq hr (dv 0) de_int) (dss_one (ds_ret de_int)) dss_nil)
      (dss_cons (ds_set (i := 1) sc_whole_root.nd rfl (by first | exact Or.inl rfl | exact Or.inr rfl) (de_shl de_int (de_fdiv (de_add (de_bits (dv 0)) de_int) de_int)))
      (dss_cons (ds_set (i := 2) sc_whole_root.nd rfl (by first | exact Or.inl rfl | exact Or.inr rfl) (de_fdiv (de_add (dv 1) (de_fdiv (dv 0) (dv 1))) de_int))
      (dss_cons (ds_while PassesOwn.never (dt_lt (dv 2) (dv 1)) (dss_cons (ds_set (i := 1) sc_whole_root.nd rfl (by first | exact Or.inl rfl | exact Or.inr rfl) (dv 2))
      (dss_one (ds_set (i := 2) sc_whole_root.nd rfl (by first | exact Or.inl rfl | exact Or.inr rfl) (de_fdiv (de_add (dv 1) (de_fdiv (dv 0) (dv 1))) de_int)))))
      (dss_one (ds_ret (dv 1))))))), fun ds m Q h => ?_⟩
    obtain ⟨n, rfl, l0, l1, z⟩ := h
    try simp only [sSeq, sAsg, sRet, sIf, sDrop, sNext, sNever, dOp, dUn, dVar, dC, dTest, isBool, dAnd, dOr, dNot, dAndV, dOrV, dNotV, dIf, dCons, dNil, dTup, dLst, dLstM, datas, dCall, dCB, gI0, gI, gB0, g1I, gAdd, gEqD, gNeD, gIx, gIn, g1A, g2A, gInt, gLen, gTuple, gSum, gBest, dSl, dNoPart, dPart, dgName, dgTup, dgCons, dgNil, dgSub, gSetI, dIndexT, dChain, startD, List.map_cons, List.map_nil, List.length_cons, List.length_nil, List.replicate, List.append, List.cons_append, List.nil_append, List.getElem?_cons_zero, List.getElem?_cons_succ, List.set_cons_zero, List.set_cons_succ, Option.some.injEq, Dv.d.injEq, Dv.r.injEq, PyData.tuple.injEq, PyData.list.injEq, PyData.str.injEq, PyData.int.injEq, exists_eq_left', Option.map_some, Nat.zero_add, Nat.reduceAdd, Nat.reduceSub, true_and, and_true, exists_and_left, at0, at1, at2, at3, at4, eqv_int, shaped_int, eqv_pr, shaped_pr, bes, intsD, in4, flat4, flatI, Bool.not_eq_true', decide_eq_false_iff_not, not_true_eq_false, if_true, if_false, Bool.not_true, Bool.not_false, Bool.false_eq_true, Bool.true_eq_false, Bool.or_eq_false_iff,  shaped_tn, shaped_hd, shaped_r, decide_eq_true_eq, sizeLine_eq, Nat.reduceLeDiff, Int.reduceToNat, Int.reducePow, Int.reduceMul, Int.reduceAdd, Int.reduceSub, Int.reduceNeg, Int.reduceMod, setM_same, MO.lst.injEq, setM_setM, ix0, ix1, ix2, ix3, ix4]
    by_cases h0 : n = 0
    · rw [if_pos h0]
      subst h0
      exact z 0 ⟨by decide, by decide, by decide⟩
    · rw [if_neg h0]
      obtain ⟨hb1, hb2⟩ := bits_ok (n := n) (by omega) l1
      generalize hB : ((Builtin.Int.intBits n : Int) + 1) / 2 = B at *
      refine ⟨by unfold CDivB; decide, by unfold CPow; omega, ?_⟩
      generalize hR : (1 : Int) * 2 ^ B.toNat = R at *
      refine ⟨by unfold CDivB; omega, by unfold CDivB; decide, ?_⟩
      unfold sWhile
      refine ⟨fun k δ m' => ∃ root : Int, δ = [some (I n), some (I root), some (I ((root + n / root) / 2))] ∧ m' = m ∧ k = root.toNat ∧ 1 ≤ root ∧ root < 2 ^ 100 ∧ n < (root + 1) * (root + 1), ⟨_, R, rfl, rfl, rfl, by omega, by omega, ?_⟩, ?_⟩
      · have : R * R ≤ (R + 1) * (R + 1) := Int.mul_le_mul (by omega) (by omega) (by omega) (by omega)
        omega
      · rintro k δ m' ⟨root, rfl, rfl, rfl, r1, r2, r3⟩
        try simp only [sSeq, sAsg, sRet, sIf, sDrop, sNext, sNever, dOp, dUn, dVar, dC, dTest, isBool, dAnd, dOr, dNot, dAndV, dOrV, dNotV, dIf, dCons, dNil, dTup, dLst, dLstM, datas, dCall, dCB, gI0, gI, gB0, g1I, gAdd, gEqD, gNeD, gIx, gIn, g1A, g2A, gInt, gLen, gTuple, gSum, gBest, dSl, dNoPart, dPart, dgName, dgTup, dgCons, dgNil, dgSub, gSetI, dIndexT, dChain, startD, List.map_cons, List.map_nil, List.length_cons, List.length_nil, List.replicate, List.append, List.cons_append, List.nil_append, List.getElem?_cons_zero, List.getElem?_cons_succ, List.set_cons_zero, List.set_cons_succ, Option.some.injEq, Dv.d.injEq, Dv.r.injEq, PyData.tuple.injEq, PyData.list.injEq, PyData.str.injEq, PyData.int.injEq, exists_eq_left', Option.map_some, Nat.zero_add, Nat.reduceAdd, Nat.reduceSub, true_and, and_true, exists_and_left, at0, at1, at2, at3, at4, eqv_int, shaped_int, eqv_pr, shaped_pr, bes, intsD, in4, flat4, flatI, Bool.not_eq_true', decide_eq_false_iff_not, not_true_eq_false, if_true, if_false, Bool.not_true, Bool.not_false, Bool.false_eq_true, Bool.true_eq_false, Bool.or_eq_false_iff,  shaped_tn, shaped_hd, shaped_r, decide_eq_true_eq, sizeLine_eq, Nat.reduceLeDiff, Int.reduceToNat, Int.reducePow, Int.reduceMul, Int.reduceAdd, Int.reduceSub, Int.reduceNeg, Int.reduceMod, setM_same, MO.lst.injEq, setM_setM, ix0, ix1, ix2, ix3, ix4]
        by_cases hlt : (root + n / root) / 2 < root
        · rw [if_pos hlt]
          obtain ⟨t1, t2⟩ := newton (n := n) (r := root) (by omega) r1
          refine ⟨fun δ' m2 => ∃ root' : Int, δ' = [some (I n), some (I root'), some (I ((root' + n / root') / 2))] ∧ m2 = m' ∧ root'.toNat < root.toNat ∧ 1 ≤ root' ∧ root' < 2 ^ 100 ∧ n < (root' + 1) * (root' + 1), ?_, ?_⟩
          · rintro δ' m2 ⟨root', rfl, rfl, hm, h1, h2, h3⟩
            exact ⟨_, hm, root', rfl, rfl, rfl, h1, h2, h3⟩
          · refine ⟨by unfold CDivB; omega, by unfold CDivB; decide, _, rfl, rfl, ?_, t1, by omega, t2⟩
            omega
        · rw [if_neg hlt]
          refine z root ⟨by omega, ?_, r3⟩
          have h1 : root ≤ n / root := by omega
          have h2 := Int.mul_le_mul_of_nonneg_left h1 (show 0 ≤ root by omega)
          have h3 : root * (n / root) ≤ n := Int.mul_ediv_self_le (by omega)
          omega
theorem sc_plain_ring : FnScope ["offset"] ["offset"] (defScope s_plain_ring) := ⟨rfl, rfl, rfl, by decide +kernel, rfl, by decide +kernel, by decide +kernel⟩
theorem ok_plain_ring (T : Tx K mg) : FnOk P w K mg base CX0 2 T.a_plain_ring T.fd_plain_ring ["offset"] (spD K F_plain_ring) := by
  refine Fun.okD T.F_plain_ring sc_plain_ring mo_plain_ring (fun ds m Q h => ?_) (fun cdv A outer s H E hr => ?_)
  · unfold F_plain_ring at h; obtain ⟨n, rfl, l0, l1, z⟩ := h; rfl
  · refine ⟨_, (dss_one (ds_ret (de_fdiv (de_add (de_call mo_whole_root ((ok_whole_root T).mono (by decide : 1 ≤ 1)) hr (by rfl) T.m_whole_root T.F_whole_root.kp T.n_whole_root (da_cons (dv 0) da_nil)) de_int) de_int))), fun ds m Q h => ?_⟩
    obtain ⟨n, rfl, l0, l1, z⟩ := h
    try simp only [sSeq, sAsg, sRet, sIf, sDrop, sNext, sNever, dOp, dUn, dVar, dC, dTest, isBool, dAnd, dOr, dNot, dAndV, dOrV, dNotV, dIf, dCons, dNil, dTup, dLst, dLstM, datas, dCall, dCB, gI0, gI, gB0, g1I, gAdd, gEqD, gNeD, gIx, gIn, g1A, g2A, gInt, gLen, gTuple, gSum, gBest, dSl, dNoPart, dPart, dgName, dgTup, dgCons, dgNil, dgSub, gSetI, dIndexT, dChain, startD, List.map_cons, List.map_nil, List.length_cons, List.length_nil, List.replicate, List.append, List.cons_append, List.nil_append, List.getElem?_cons_zero, List.getElem?_cons_succ, List.set_cons_zero, List.set_cons_succ, Option.some.injEq, Dv.d.injEq, Dv.r.injEq, PyData.tuple.injEq, PyData.list.injEq, PyData.str.injEq, PyData.int.injEq, exists_eq_left', Option.map_some, Nat.zero_add, Nat.reduceAdd, Nat.reduceSub, true_and, and_true, exists_and_left, at0, at1, at2, at3, at4, eqv_int, shaped_int, eqv_pr, shaped_pr, bes, intsD, in4, flat4, flatI, Bool.not_eq_true', decide_eq_false_iff_not, not_true_eq_false, if_true, if_false, Bool.not_true, Bool.not_false, Bool.false_eq_true, Bool.true_eq_false, Bool.or_eq_false_iff,  shaped_tn, shaped_hd, shaped_r, decide_eq_true_eq, sizeLine_eq, Nat.reduceLeDiff, Int.reduceToNat, Int.reducePow, Int.reduceMul, Int.reduceAdd, Int.reduceSub, Int.reduceNeg, Int.reduceMod, setM_same, MO.lst.injEq, setM_setM, ix0, ix1, ix2, ix3, ix4]
    refine ⟨n, rfl, l0, by omega, fun r hr => ?_⟩
    try simp only [sSeq, sAsg, sRet, sIf, sDrop, sNext, sNever, dOp, dUn, dVar, dC, dTest, isBool, dAnd, dOr, dNot, dAndV, dOrV, dNotV, dIf, dCons, dNil, dTup, dLst, dLstM, datas, dCall, dCB, gI0, gI, gB0, g1I, gAdd, gEqD, gNeD, gIx, gIn, g1A, g2A, gInt, gLen, gTuple, gSum, gBest, dSl, dNoPart, dPart, dgName, dgTup, dgCons, dgNil, dgSub, gSetI, dIndexT, dChain, startD, List.map_cons, List.map_nil, List.length_cons, List.length_nil, List.replicate, List.append, List.cons_append, List.nil_append, List.getElem?_cons_zero, List.getElem?_cons_succ, List.set_cons_zero, List.set_cons_succ, Option.some.injEq, Dv.d.injEq, Dv.r.injEq, PyData.tuple.injEq, PyData.list.injEq, PyData.str.injEq, PyData.int.injEq, exists_eq_left', Option.map_some, Nat.zero_add, Nat.reduceAdd, Nat.reduceSub, true_and, and_true, exists_and_left, at0, at1, at2, at3, at4, eqv_int, shaped_int, eqv_pr, shaped_pr, bes, intsD, in4, flat4, flatI, Bool.not_eq_true', decide_eq_false_iff_not, not_true_eq_false, if_true, if_false, Bool.not_true, Bool.not_false, Bool.false_eq_true, Bool.true_eq_false, Bool.or_eq_false_iff,  shaped_tn, shaped_hd, shaped_r, decide_eq_true_eq, sizeLine_eq, Nat.reduceLeDiff, Int.reduceToNat, Int.reducePow, Int.reduceMul, Int.reduceAdd, Int.reduceSub, Int.reduceNeg, Int.reduceMod, setM_same, MO.lst.injEq, setM_setM, ix0, ix1, ix2, ix3, ix4]
    exact ⟨by unfold CDivB; decide, z r hr⟩
theorem sc_plain_place : FnScope ["offset", "ring", "past"] ["offset"] (defScope s_plain_place) := ⟨rfl, rfl, rfl, by decide +kernel, rfl, by decide +kernel, by decide +kernel⟩
theorem ok_plain_place (T : Tx K mg) : FnOk P w K mg base CX0 3 T.a_plain_place T.fd_plain_place ["offset"] (spD K F_plain_place) := by
  refine Fun.okD T.F_plain_place sc_plain_place mo_plain_place (fun ds m Q h => ?_) (fun cdv A outer s H E hr => ?_)
  · unfold F_plain_place at h; obtain ⟨n, rfl, l0, l1, z⟩ := h; rfl
  · refine ⟨_, (dss_cons (ds_set (i := 1) sc_plain_place.nd rfl (by first | exact Or.inl rfl | exact Or.inr rfl) (de_call mo_plain_ring ((ok_plain_ring T).mono (by decide : 2 ≤ 2)) hr (by rfl) T.m_plain_ring T.F_plain_ring.kp T.n_plain_ring (da_cons (dv 0) da_nil)))
      (dss_cons (ds_set (i := 2) sc_plain_place.nd rfl (by first | exact Or.inl rfl | exact Or.inr rfl) (de_sub (dv 0) (de_mul (de_mul de_int (dv 1)) (dv 1))))
      (dss_cons (ds_if (dt_gt (dv 2) (de_mul de_int (dv 1))) (dss_one (ds_ret (de_tup (da_cons (de_sub (dv 2) (de_mul de_int (dv 1))) (da_cons (de_neg (dv 1)) da_nil))))) dss_nil)
      (dss_cons (ds_if (dt_gt (dv 2) de_int) (dss_one (ds_ret (de_tup (da_cons (de_neg (dv 1)) (da_cons (de_sub (dv 1) (dv 2)) da_nil))))) dss_nil)
      (dss_cons (ds_if (dt_gt (dv 2) (de_mul (de_neg de_int) (dv 1))) (dss_one (ds_ret (de_tup (da_cons (de_sub (de_neg (dv 1)) (dv 2)) (da_cons (dv 1) da_nil))))) dss_nil)
      (dss_one (ds_ret (de_tup (da_cons (dv 1) (da_cons (de_add (dv 2) (de_mul de_int (dv 1))) da_nil)))))))))), fun ds m Q h => ?_⟩
    obtain ⟨n, rfl, l0, l1, z⟩ := h
    try simp only [sSeq, sAsg, sRet, sIf, sDrop, sNext, sNever, dOp, dUn, dVar, dC, dTest, isBool, dAnd, dOr, dNot, dAndV, dOrV, dNotV, dIf, dCons, dNil, dTup, dLst, dLstM, datas, dCall, dCB, gI0, gI, gB0, g1I, gAdd, gEqD, gNeD, gIx, gIn, g1A, g2A, gInt, gLen, gTuple, gSum, gBest, dSl, dNoPart, dPart, dgName, dgTup, dgCons, dgNil, dgSub, gSetI, dIndexT, dChain, startD, List.map_cons, List.map_nil, List.length_cons, List.length_nil, List.replicate, List.append, List.cons_append, List.nil_append, List.getElem?_cons_zero, List.getElem?_cons_succ, List.set_cons_zero, List.set_cons_succ, Option.some.injEq, Dv.d.injEq, Dv.r.injEq, PyData.tuple.injEq, PyData.list.injEq, PyData.str.injEq, PyData.int.injEq, exists_eq_left', Option.map_some, Nat.zero_add, Nat.reduceAdd, Nat.reduceSub, true_and, and_true, exists_and_left, at0, at1, at2, at3, at4, eqv_int, shaped_int, eqv_pr, shaped_pr, bes, intsD, in4, flat4, flatI, Bool.not_eq_true', decide_eq_false_iff_not, not_true_eq_false, if_true, if_false, Bool.not_true, Bool.not_false, Bool.false_eq_true, Bool.true_eq_false, Bool.or_eq_false_iff,  shaped_tn, shaped_hd, shaped_r, decide_eq_true_eq, sizeLine_eq, Nat.reduceLeDiff, Int.reduceToNat, Int.reducePow, Int.reduceMul, Int.reduceAdd, Int.reduceSub, Int.reduceNeg, Int.reduceMod, setM_same, MO.lst.injEq, setM_setM, ix0, ix1, ix2, ix3, ix4]
    refine ⟨n, rfl, l0, l1, fun r hr => ?_⟩
    try simp only [sSeq, sAsg, sRet, sIf, sDrop, sNext, sNever, dOp, dUn, dVar, dC, dTest, isBool, dAnd, dOr, dNot, dAndV, dOrV, dNotV, dIf, dCons, dNil, dTup, dLst, dLstM, datas, dCall, dCB, gI0, gI, gB0, g1I, gAdd, gEqD, gNeD, gIx, gIn, g1A, g2A, gInt, gLen, gTuple, gSum, gBest, dSl, dNoPart, dPart, dgName, dgTup, dgCons, dgNil, dgSub, gSetI, dIndexT, dChain, startD, List.map_cons, List.map_nil, List.length_cons, List.length_nil, List.replicate, List.append, List.cons_append, List.nil_append, List.getElem?_cons_zero, List.getElem?_cons_succ, List.set_cons_zero, List.set_cons_succ, Option.some.injEq, Dv.d.injEq, Dv.r.injEq, PyData.tuple.injEq, PyData.list.injEq, PyData.str.injEq, PyData.int.injEq, exists_eq_left', Option.map_some, Nat.zero_add, Nat.reduceAdd, Nat.reduceSub, true_and, and_true, exists_and_left, at0, at1, at2, at3, at4, eqv_int, shaped_int, eqv_pr, shaped_pr, bes, intsD, in4, flat4, flatI, Bool.not_eq_true', decide_eq_false_iff_not, not_true_eq_false, if_true, if_false, Bool.not_true, Bool.not_false, Bool.false_eq_true, Bool.true_eq_false, Bool.or_eq_false_iff,  shaped_tn, shaped_hd, shaped_r, decide_eq_true_eq, sizeLine_eq, Nat.reduceLeDiff, Int.reduceToNat, Int.reducePow, Int.reduceMul, Int.reduceAdd, Int.reduceSub, Int.reduceNeg, Int.reduceMod, setM_same, MO.lst.injEq, setM_setM, ix0, ix1, ix2, ix3, ix4]
    have hp := pp_ok hr
    obtain ⟨k0, k1, k2, k3⟩ := ring_of_root hr
    have hz := z _ _ hp
    have kb : (r + 1) / 2 < 2 ^ 61 := by
      rcases Int.lt_or_le ((r + 1) / 2) (2 ^ 61) with h | h
      · exact h
      · exfalso
        have : 4 * 2 ^ 61 * ((r + 1) / 2) ≤ 4 * ((r + 1) / 2) * ((r + 1) / 2) := Int.mul_le_mul (by omega) (Int.le_refl _) (by omega) (by omega)
        omega
    unfold ppx ppy at hz
    generalize (r + 1) / 2 = k at *
    refine ⟨by unfold CMul; omega, by unfold CMul; omega, by unfold CMul; omega, ?_⟩
    by_cases a : n - 4 * k * k > 2 * k
    · rw [if_pos a] at *; rw [if_pos a] at hz
      exact ⟨by unfold CMul; omega, hz⟩
    · rw [if_neg a, if_neg a] at hz
      rw [if_neg a]
      by_cases b : n - 4 * k * k > 0
      · rw [if_pos b, if_pos b] at hz
        rw [if_pos b]; exact hz
      · rw [if_neg b, if_neg b] at hz
        rw [if_neg b]
        refine ⟨by unfold CMul; omega, ?_⟩
        by_cases c : n - 4 * k * k > -2 * k
        · rw [if_pos c, if_pos c] at hz
          rw [if_pos c]; exact hz
        · rw [if_neg c, if_neg c] at hz
          rw [if_neg c]; exact ⟨by unfold CMul; omega, hz⟩
theorem sc_quarters_of : FnScope ["heading"] ["heading"] (defScope s_quarters_of) := ⟨rfl, rfl, rfl, by decide +kernel, rfl, by decide +kernel, by decide +kernel⟩
theorem ok_quarters_of (T : Tx K mg) : FnOk P w K mg base CX0 1 T.a_quarters_of T.fd_quarters_of ["heading"] (spD K F_quarters_of) := by
  refine Fun.okD T.F_quarters_of sc_quarters_of mo_quarters_of (fun ds m Q h => ?_) (fun cdv A outer s H E hr => ?_)
  · unfold F_quarters_of at h; obtain ⟨q, rfl, l, z⟩ := h; rfl
  · refine ⟨_, (dss_one (ds_ret (de_indexT (by rfl) T.m_HEADINGS T.k_HEADINGS rfl rfl T.s_HEADINGS T.a_HEADINGS_all rfl (dv 0)))), fun ds m Q h => ?_⟩
    obtain ⟨q, rfl, l, z⟩ := h
    try simp only [sSeq, sAsg, sRet, sIf, sDrop, sNext, sNever, dOp, dUn, dVar, dC, dTest, isBool, dAnd, dOr, dNot, dAndV, dOrV, dNotV, dIf, dCons, dNil, dTup, dLst, dLstM, datas, dCall, dCB, gI0, gI, gB0, g1I, gAdd, gEqD, gNeD, gIx, gIn, g1A, g2A, gInt, gLen, gTuple, gSum, gBest, dSl, dNoPart, dPart, dgName, dgTup, dgCons, dgNil, dgSub, gSetI, dIndexT, dChain, startD, List.map_cons, List.map_nil, List.length_cons, List.length_nil, List.replicate, List.append, List.cons_append, List.nil_append, List.getElem?_cons_zero, List.getElem?_cons_succ, List.set_cons_zero, List.set_cons_succ, Option.some.injEq, Dv.d.injEq, Dv.r.injEq, PyData.tuple.injEq, PyData.list.injEq, PyData.str.injEq, PyData.int.injEq, exists_eq_left', Option.map_some, Nat.zero_add, Nat.reduceAdd, Nat.reduceSub, true_and, and_true, exists_and_left, at0, at1, at2, at3, at4, eqv_int, shaped_int, eqv_pr, shaped_pr, bes, intsD, in4, flat4, flatI, Bool.not_eq_true', decide_eq_false_iff_not, not_true_eq_false, if_true, if_false, Bool.not_true, Bool.not_false, Bool.false_eq_true, Bool.true_eq_false, Bool.or_eq_false_iff,  shaped_tn, shaped_hd, shaped_r, decide_eq_true_eq, sizeLine_eq, Nat.reduceLeDiff, Int.reduceToNat, Int.reducePow, Int.reduceMul, Int.reduceAdd, Int.reduceSub, Int.reduceNeg, Int.reduceMod, setM_same, MO.lst.injEq, setM_setM, ix0, ix1, ix2, ix3, ix4]
    exact ⟨rfl, q, idx_hd l, z⟩
theorem sc_turned_left : FnScope ["place", "quarters", "along", "up"] ["place", "quarters"] (defScope s_turned_left) := ⟨rfl, rfl, rfl, by decide +kernel, rfl, by decide +kernel, by decide +kernel⟩
theorem ok_turned_left (T : Tx K mg) : FnOk P w K mg base CX0 1 T.a_turned_left T.fd_turned_left ["place", "quarters"] (spD K F_turned_left) := by
  refine Fun.okD T.F_turned_left sc_turned_left mo_turned_left (fun ds m Q h => ?_) (fun cdv A outer s H E hr => ?_)
  · unfold F_turned_left at h; obtain ⟨x, y, q, rfl, z⟩ := h; rfl
  · refine ⟨_, (dss_cons (ds_asg (dv 0) (dg_tup (n := 2) rfl (dgs_cons (dg_name (i := 2) sc_turned_left.nd rfl (by first | exact Or.inl rfl | exact Or.inr rfl)) (dgs_cons (dg_name (i := 3) sc_turned_left.nd rfl (by first | exact Or.inl rfl | exact Or.inr rfl)) dgs_nil))))
      (dss_cons (ds_if (dt_eq hr (dv 1) de_int) (dss_one (ds_ret (de_tup (da_cons (de_neg (dv 3)) (da_cons (dv 2) da_nil))))) dss_nil)
      (dss_cons (ds_if (dt_eq hr (dv 1) de_int) (dss_one (ds_ret (de_tup (da_cons (de_neg (dv 2)) (da_cons (de_neg (dv 3)) da_nil))))) dss_nil)
      (dss_cons (ds_if (dt_eq hr (dv 1) de_int) (dss_one (ds_ret (de_tup (da_cons (dv 3) (da_cons (de_neg (dv 2)) da_nil))))) dss_nil)
      (dss_one (ds_ret (de_tup (da_cons (dv 2) (da_cons (dv 3) da_nil))))))))), fun ds m Q h => ?_⟩
    obtain ⟨x, y, q, rfl, z⟩ := h
    try simp only [sSeq, sAsg, sRet, sIf, sDrop, sNext, sNever, dOp, dUn, dVar, dC, dTest, isBool, dAnd, dOr, dNot, dAndV, dOrV, dNotV, dIf, dCons, dNil, dTup, dLst, dLstM, datas, dCall, dCB, gI0, gI, gB0, g1I, gAdd, gEqD, gNeD, gIx, gIn, g1A, g2A, gInt, gLen, gTuple, gSum, gBest, dSl, dNoPart, dPart, dgName, dgTup, dgCons, dgNil, dgSub, gSetI, dIndexT, dChain, startD, List.map_cons, List.map_nil, List.length_cons, List.length_nil, List.replicate, List.append, List.cons_append, List.nil_append, List.getElem?_cons_zero, List.getElem?_cons_succ, List.set_cons_zero, List.set_cons_succ, Option.some.injEq, Dv.d.injEq, Dv.r.injEq, PyData.tuple.injEq, PyData.list.injEq, PyData.str.injEq, PyData.int.injEq, exists_eq_left', Option.map_some, Nat.zero_add, Nat.reduceAdd, Nat.reduceSub, true_and, and_true, exists_and_left, at0, at1, at2, at3, at4, eqv_int, shaped_int, eqv_pr, shaped_pr, bes, intsD, in4, flat4, flatI, Bool.not_eq_true', decide_eq_false_iff_not, not_true_eq_false, if_true, if_false, Bool.not_true, Bool.not_false, Bool.false_eq_true, Bool.true_eq_false, Bool.or_eq_false_iff,  shaped_tn, shaped_hd, shaped_r, decide_eq_true_eq, sizeLine_eq, Nat.reduceLeDiff, Int.reduceToNat, Int.reducePow, Int.reduceMul, Int.reduceAdd, Int.reduceSub, Int.reduceNeg, Int.reduceMod, setM_same, MO.lst.injEq, setM_setM, ix0, ix1, ix2, ix3, ix4]
    unfold rotx roty at z
    by_cases h1 : q = 1
    · subst h1; rw [if_pos (by rfl)]; exact z
    · rw [if_neg (by omega)]
      rw [if_neg h1, if_neg h1] at z
      by_cases h2 : q = 2
      · subst h2; rw [if_pos (by rfl)]; exact z
      · rw [if_neg (by omega)]
        rw [if_neg h2, if_neg h2] at z
        by_cases h3 : q = 3
        · subst h3; rw [if_pos (by rfl)]; exact z
        · rw [if_neg (by omega)]
          rw [if_neg h3, if_neg h3] at z
          exact z
theorem sc_mirrored_by : FnScope ["turn", "place", "along", "up"] ["turn", "place"] (defScope s_mirrored_by) := ⟨rfl, rfl, rfl, by decide +kernel, rfl, by decide +kernel, by decide +kernel⟩
theorem ok_mirrored_by (T : Tx K mg) : FnOk P w K mg base CX0 1 T.a_mirrored_by T.fd_mirrored_by ["turn", "place"] (spD K F_mirrored_by) := by
  refine Fun.okD T.F_mirrored_by sc_mirrored_by mo_mirrored_by (fun ds m Q h => ?_) (fun cdv A outer s H E hr => ?_)
  · unfold F_mirrored_by at h; obtain ⟨r, x, y, rfl, z⟩ := h; rfl
  · refine ⟨_, (dss_cons (ds_asg (dv 1) (dg_tup (n := 2) rfl (dgs_cons (dg_name (i := 2) sc_mirrored_by.nd rfl (by first | exact Or.inl rfl | exact Or.inr rfl)) (dgs_cons (dg_name (i := 3) sc_mirrored_by.nd rfl (by first | exact Or.inl rfl | exact Or.inr rfl)) dgs_nil))))
      (dss_cons (ds_if (dt_eq hr (dv 0) de_str) (dss_one (ds_ret (de_tup (da_cons (dv 2) (da_cons (de_neg (dv 3)) da_nil))))) dss_nil)
      (dss_one (ds_ret (de_tup (da_cons (dv 2) (da_cons (dv 3) da_nil))))))), fun ds m Q h => ?_⟩
    obtain ⟨r, x, y, rfl, z⟩ := h
    try simp only [sSeq, sAsg, sRet, sIf, sDrop, sNext, sNever, dOp, dUn, dVar, dC, dTest, isBool, dAnd, dOr, dNot, dAndV, dOrV, dNotV, dIf, dCons, dNil, dTup, dLst, dLstM, datas, dCall, dCB, gI0, gI, gB0, g1I, gAdd, gEqD, gNeD, gIx, gIn, g1A, g2A, gInt, gLen, gTuple, gSum, gBest, dSl, dNoPart, dPart, dgName, dgTup, dgCons, dgNil, dgSub, gSetI, dIndexT, dChain, startD, List.map_cons, List.map_nil, List.length_cons, List.length_nil, List.replicate, List.append, List.cons_append, List.nil_append, List.getElem?_cons_zero, List.getElem?_cons_succ, List.set_cons_zero, List.set_cons_succ, Option.some.injEq, Dv.d.injEq, Dv.r.injEq, PyData.tuple.injEq, PyData.list.injEq, PyData.str.injEq, PyData.int.injEq, exists_eq_left', Option.map_some, Nat.zero_add, Nat.reduceAdd, Nat.reduceSub, true_and, and_true, exists_and_left, at0, at1, at2, at3, at4, eqv_int, shaped_int, eqv_pr, shaped_pr, bes, intsD, in4, flat4, flatI, Bool.not_eq_true', decide_eq_false_iff_not, not_true_eq_false, if_true, if_false, Bool.not_true, Bool.not_false, Bool.false_eq_true, Bool.true_eq_false, Bool.or_eq_false_iff,  shaped_tn, shaped_hd, shaped_r, decide_eq_true_eq, sizeLine_eq, Nat.reduceLeDiff, Int.reduceToNat, Int.reducePow, Int.reduceMul, Int.reduceAdd, Int.reduceSub, Int.reduceNeg, Int.reduceMod, setM_same, MO.lst.injEq, setM_setM, ix0, ix1, ix2, ix3, ix4]
    rw [eqv_tn]
    unfold mir at z
    cases r <;> exact z
theorem sc_from_plain : FnScope ["spiral", "place", "start", "heading", "turn"] ["spiral", "place"] (defScope s_from_plain) := ⟨rfl, rfl, rfl, by decide +kernel, rfl, by decide +kernel, by decide +kernel⟩
theorem ok_from_plain (T : Tx K mg) : FnOk P w K mg base CX0 2 T.a_from_plain T.fd_from_plain ["spiral", "place"] (spD K F_from_plain) := by
  refine Fun.okD T.F_from_plain sc_from_plain mo_from_plain (fun ds m Q h => ?_) (fun cdv A outer s H E hr => ?_)
  · unfold F_from_plain at h; obtain ⟨s, q, r, x, y, rfl, l, z⟩ := h; rfl
  · refine ⟨_, (dss_cons (ds_asg (dv 0) (dg_tup (n := 3) rfl (dgs_cons (dg_name (i := 2) sc_from_plain.nd rfl (by first | exact Or.inl rfl | exact Or.inr rfl)) (dgs_cons (dg_name (i := 3) sc_from_plain.nd rfl (by first | exact Or.inl rfl | exact Or.inr rfl)) (dgs_cons (dg_name (i := 4) sc_from_plain.nd rfl (by first | exact Or.inl rfl | exact Or.inr rfl)) dgs_nil)))))
      (dss_one (ds_ret (de_call mo_turned_left ((ok_turned_left T).mono (by decide : 1 ≤ 1)) hr (by rfl) T.m_turned_left T.F_turned_left.kp T.n_turned_left (da_cons (de_call mo_mirrored_by ((ok_mirrored_by T).mono (by decide : 1 ≤ 1)) hr (by rfl) T.m_mirrored_by T.F_mirrored_by.kp T.n_mirrored_by (da_cons (dv 4) (da_cons (dv 1) da_nil))) (da_cons (de_call mo_quarters_of ((ok_quarters_of T).mono (by decide : 1 ≤ 1)) hr (by rfl) T.m_quarters_of T.F_quarters_of.kp T.n_quarters_of (da_cons (dv 3) da_nil)) da_nil)))))), fun ds m Q h => ?_⟩
    obtain ⟨s, q, r, x, y, rfl, l, z⟩ := h
    try simp only [sSeq, sAsg, sRet, sIf, sDrop, sNext, sNever, dOp, dUn, dVar, dC, dTest, isBool, dAnd, dOr, dNot, dAndV, dOrV, dNotV, dIf, dCons, dNil, dTup, dLst, dLstM, datas, dCall, dCB, gI0, gI, gB0, g1I, gAdd, gEqD, gNeD, gIx, gIn, g1A, g2A, gInt, gLen, gTuple, gSum, gBest, dSl, dNoPart, dPart, dgName, dgTup, dgCons, dgNil, dgSub, gSetI, dIndexT, dChain, startD, List.map_cons, List.map_nil, List.length_cons, List.length_nil, List.replicate, List.append, List.cons_append, List.nil_append, List.getElem?_cons_zero, List.getElem?_cons_succ, List.set_cons_zero, List.set_cons_succ, Option.some.injEq, Dv.d.injEq, Dv.r.injEq, PyData.tuple.injEq, PyData.list.injEq, PyData.str.injEq, PyData.int.injEq, exists_eq_left', Option.map_some, Nat.zero_add, Nat.reduceAdd, Nat.reduceSub, true_and, and_true, exists_and_left, at0, at1, at2, at3, at4, eqv_int, shaped_int, eqv_pr, shaped_pr, bes, intsD, in4, flat4, flatI, Bool.not_eq_true', decide_eq_false_iff_not, not_true_eq_false, if_true, if_false, Bool.not_true, Bool.not_false, Bool.false_eq_true, Bool.true_eq_false, Bool.or_eq_false_iff,  shaped_tn, shaped_hd, shaped_r, decide_eq_true_eq, sizeLine_eq, Nat.reduceLeDiff, Int.reduceToNat, Int.reducePow, Int.reduceMul, Int.reduceAdd, Int.reduceSub, Int.reduceNeg, Int.reduceMod, setM_same, MO.lst.injEq, setM_setM, ix0, ix1, ix2, ix3, ix4]
    refine ⟨r, x, y, rfl, ⟨q, rfl, l, ?_⟩⟩
    exact ⟨x, mir r y, q, rfl, z⟩
theorem sc_place_of : FnScope ["spiral", "number"] ["spiral", "number"] (defScope s_place_of) := ⟨rfl, rfl, rfl, by decide +kernel, rfl, by decide +kernel, by decide +kernel⟩
theorem ok_place_of (T : Tx K mg) : FnOk P w K mg base CX0 4 T.a_place_of T.fd_place_of ["spiral", "number"] (spD K F_place_of) := by
  refine Fun.okD T.F_place_of sc_place_of mo_place_of (fun ds m Q h => ?_) (fun cdv A outer s H E hr => ?_)
  · unfold F_place_of at h; obtain ⟨s, q, r, n, rfl, l, b, z⟩ := h; rfl
  · refine ⟨_, (dss_one (ds_ret (de_call mo_from_plain ((ok_from_plain T).mono (by decide : 2 ≤ 3)) hr (by rfl) T.m_from_plain T.F_from_plain.kp T.n_from_plain (da_cons (dv 0) (da_cons (de_call mo_plain_place ((ok_plain_place T).mono (by decide : 3 ≤ 3)) hr (by rfl) T.m_plain_place T.F_plain_place.kp T.n_plain_place (da_cons (de_call mo_offset_of ((ok_offset_of T).mono (by decide : 1 ≤ 3)) hr (by rfl) T.m_offset_of T.F_offset_of.kp T.n_offset_of (da_cons (dv 0) (da_cons (dv 1) da_nil))) da_nil)) da_nil))))), fun ds m Q h => ?_⟩
    obtain ⟨s, q, r, n, rfl, l, b, z⟩ := h
    try simp only [sSeq, sAsg, sRet, sIf, sDrop, sNext, sNever, dOp, dUn, dVar, dC, dTest, isBool, dAnd, dOr, dNot, dAndV, dOrV, dNotV, dIf, dCons, dNil, dTup, dLst, dLstM, datas, dCall, dCB, gI0, gI, gB0, g1I, gAdd, gEqD, gNeD, gIx, gIn, g1A, g2A, gInt, gLen, gTuple, gSum, gBest, dSl, dNoPart, dPart, dgName, dgTup, dgCons, dgNil, dgSub, gSetI, dIndexT, dChain, startD, List.map_cons, List.map_nil, List.length_cons, List.length_nil, List.replicate, List.append, List.cons_append, List.nil_append, List.getElem?_cons_zero, List.getElem?_cons_succ, List.set_cons_zero, List.set_cons_succ, Option.some.injEq, Dv.d.injEq, Dv.r.injEq, PyData.tuple.injEq, PyData.list.injEq, PyData.str.injEq, PyData.int.injEq, exists_eq_left', Option.map_some, Nat.zero_add, Nat.reduceAdd, Nat.reduceSub, true_and, and_true, exists_and_left, at0, at1, at2, at3, at4, eqv_int, shaped_int, eqv_pr, shaped_pr, bes, intsD, in4, flat4, flatI, Bool.not_eq_true', decide_eq_false_iff_not, not_true_eq_false, if_true, if_false, Bool.not_true, Bool.not_false, Bool.false_eq_true, Bool.true_eq_false, Bool.or_eq_false_iff,  shaped_tn, shaped_hd, shaped_r, decide_eq_true_eq, sizeLine_eq, Nat.reduceLeDiff, Int.reduceToNat, Int.reducePow, Int.reduceMul, Int.reduceAdd, Int.reduceSub, Int.reduceNeg, Int.reduceMod, setM_same, MO.lst.injEq, setM_setM, ix0, ix1, ix2, ix3, ix4]
    refine ⟨s, q, r, n, rfl, b.1, n - s, rfl, by omega, b.2, fun u v huv => ?_⟩
    refine ⟨s, q, r, u, v, rfl, l, z _ _ ?_⟩
    rw [at_fp l]; exact huv
theorem sc_streets_between : FnScope ["place", "other"] ["place", "other"] (defScope s_streets_between) := ⟨rfl, rfl, rfl, by decide +kernel, rfl, by decide +kernel, by decide +kernel⟩
theorem ok_streets_between (T : Tx K mg) : FnOk P w K mg base CX0 1 T.a_streets_between T.fd_streets_between ["place", "other"] (spD K F_streets_between) := by
  refine Fun.okD T.F_streets_between sc_streets_between mo_streets_between (fun ds m Q h => ?_) (fun cdv A outer s H E hr => ?_)
  · unfold F_streets_between at h; obtain ⟨x, y, x2, y2, rfl, z⟩ := h; rfl
  · refine ⟨_, (dss_one (ds_ret (de_add (de_abs (by rfl) T.b_abs (da_cons (de_sub (de_ix (dv 0) de_int) (de_ix (dv 1) de_int)) da_nil)) (de_abs (by rfl) T.b_abs (da_cons (de_sub (de_ix (dv 0) de_int) (de_ix (dv 1) de_int)) da_nil))))), fun ds m Q h => ?_⟩
    obtain ⟨x, y, x2, y2, rfl, z⟩ := h
    try simp only [sSeq, sAsg, sRet, sIf, sDrop, sNext, sNever, dOp, dUn, dVar, dC, dTest, isBool, dAnd, dOr, dNot, dAndV, dOrV, dNotV, dIf, dCons, dNil, dTup, dLst, dLstM, datas, dCall, dCB, gI0, gI, gB0, g1I, gAdd, gEqD, gNeD, gIx, gIn, g1A, g2A, gInt, gLen, gTuple, gSum, gBest, dSl, dNoPart, dPart, dgName, dgTup, dgCons, dgNil, dgSub, gSetI, dIndexT, dChain, startD, List.map_cons, List.map_nil, List.length_cons, List.length_nil, List.replicate, List.append, List.cons_append, List.nil_append, List.getElem?_cons_zero, List.getElem?_cons_succ, List.set_cons_zero, List.set_cons_succ, Option.some.injEq, Dv.d.injEq, Dv.r.injEq, PyData.tuple.injEq, PyData.list.injEq, PyData.str.injEq, PyData.int.injEq, exists_eq_left', Option.map_some, Nat.zero_add, Nat.reduceAdd, Nat.reduceSub, true_and, and_true, exists_and_left, at0, at1, at2, at3, at4, eqv_int, shaped_int, eqv_pr, shaped_pr, bes, intsD, in4, flat4, flatI, Bool.not_eq_true', decide_eq_false_iff_not, not_true_eq_false, if_true, if_false, Bool.not_true, Bool.not_false, Bool.false_eq_true, Bool.true_eq_false, Bool.or_eq_false_iff,  shaped_tn, shaped_hd, shaped_r, decide_eq_true_eq, sizeLine_eq, Nat.reduceLeDiff, Int.reduceToNat, Int.reducePow, Int.reduceMul, Int.reduceAdd, Int.reduceSub, Int.reduceNeg, Int.reduceMod, setM_same, MO.lst.injEq, setM_setM, ix0, ix1, ix2, ix3, ix4, dPick, keyOf, dSlT, dTupRng, gAppend, dAppend, g2B, dM1, eqv_tn, eqv_tnl, shaped_l, dSlM, g1N, dIsi, tyD, gListD, gListM, gTupleM, sPar, dgPair, isT_it, isT_is, isT_ib, isT_ii, isT_tt, gInS, sTry, xCall, xSeq, xIf, xThen, xRaise, dIsE, dNum, dRep1, gAddT, isT_ss, isT_st, isT_ts, dLstRng, sAugI, g3A]
    exact z
theorem sc_same_places : FnScope ["one", "other", "first", "last", "found", "number", "apart"] ["one", "other", "first", "last"] (defScope s_same_places) := ⟨rfl, rfl, rfl, by decide +kernel, rfl, by decide +kernel, by decide +kernel⟩
theorem ok_same_places (T : Tx K mg) : FnOk P w K mg base CX0 5 T.a_same_places T.fd_same_places ["one", "other", "first", "last"] (spD K F_same_places) := by
  refine Fun.okDS T.F_same_places sc_same_places mo_same_places (fun ds m Q h => ?_) (fun cdv A outer s H E hr => ?_)
  · unfold F_same_places at h; obtain ⟨s, q, r, s2, q2, r2, f, t, rfl, l, l2, b, z⟩ := h; rfl
  · refine ⟨_, (dss_cons (ds_set (i := 4) sc_same_places.nd rfl (by first | exact Or.inl rfl | exact Or.inr rfl) (de_lstM da_nil))
      (dss_cons (ds_set (i := 5) sc_same_places.nd rfl (by first | exact Or.inl rfl | exact Or.inr rfl) (de_max3 rfl (by rfl) T.b_max (da_cons (dv 2) (da_cons (de_ix (dv 0) de_int) (da_cons (de_ix (dv 1) de_int) da_nil)))))
      (dss_cons (ds_while PassesOwn.never (dt_le (dv 5) (dv 3)) (dss_cons (ds_set (i := 6) sc_same_places.nd rfl (by first | exact Or.inl rfl | exact Or.inr rfl) (de_call mo_streets_between ((ok_streets_between T).mono (by decide : 1 ≤ 4)) hr (by rfl) T.m_streets_between T.F_streets_between.kp T.n_streets_between (da_cons (de_call mo_place_of ((ok_place_of T).mono (by decide : 4 ≤ 4)) hr (by rfl) T.m_place_of T.F_place_of.kp T.n_place_of (da_cons (dv 0) (da_cons (dv 5) da_nil))) (da_cons (de_call mo_place_of ((ok_place_of T).mono (by decide : 4 ≤ 4)) hr (by rfl) T.m_place_of T.F_place_of.kp T.n_place_of (da_cons (dv 1) (da_cons (dv 5) da_nil))) da_nil))))
      (dss_cons (ds_if (dt_eq hr (dv 6) de_int) (dss_one (ds_expr (de_append (dv 4) (dv 5)))) dss_nil)
      (dss_one (ds_augI (i := 5) sc_same_places.nd rfl (by first | exact Or.inl rfl | exact Or.inr rfl) (de_max2 rfl (by rfl) T.b_max (da_cons (de_fdiv (dv 6) de_int) (da_cons de_int da_nil))))))))
      (dss_one (ds_ret (de_tupleM (by rfl) T.b_tuple (da_cons (dv 4) da_nil))))))), fun ds m Q h => ?_⟩
    obtain ⟨s, q, r, s2, q2, r2, f, t, rfl, l, l2, b, z⟩ := h
    try simp only [sSeq, sAsg, sRet, sIf, sDrop, sNext, sNever, dOp, dUn, dVar, dC, dTest, isBool, dAnd, dOr, dNot, dAndV, dOrV, dNotV, dIf, dCons, dNil, dTup, dLst, dLstM, datas, dCall, dCB, gI0, gI, gB0, g1I, gAdd, gEqD, gNeD, gIx, gIn, g1A, g2A, gInt, gLen, gTuple, gSum, gBest, dSl, dNoPart, dPart, dgName, dgTup, dgCons, dgNil, dgSub, gSetI, dIndexT, dChain, startD, List.map_cons, List.map_nil, List.length_cons, List.length_nil, List.replicate, List.append, List.cons_append, List.nil_append, List.getElem?_cons_zero, List.getElem?_cons_succ, List.set_cons_zero, List.set_cons_succ, Option.some.injEq, Dv.d.injEq, Dv.r.injEq, PyData.tuple.injEq, PyData.list.injEq, PyData.str.injEq, PyData.int.injEq, exists_eq_left', Option.map_some, Nat.zero_add, Nat.reduceAdd, Nat.reduceSub, true_and, and_true, exists_and_left, at0, at1, at2, at3, at4, eqv_int, shaped_int, eqv_pr, shaped_pr, bes, intsD, in4, flat4, flatI, Bool.not_eq_true', decide_eq_false_iff_not, not_true_eq_false, if_true, if_false, Bool.not_true, Bool.not_false, Bool.false_eq_true, Bool.true_eq_false, Bool.or_eq_false_iff,  shaped_tn, shaped_hd, shaped_r, decide_eq_true_eq, sizeLine_eq, Nat.reduceLeDiff, Int.reduceToNat, Int.reducePow, Int.reduceMul, Int.reduceAdd, Int.reduceSub, Int.reduceNeg, Int.reduceMod, setM_same, MO.lst.injEq, setM_setM, ix0, ix1, ix2, ix3, ix4, dPick, keyOf, dSlT, dTupRng, gAppend, dAppend, g2B, dM1, eqv_tn, eqv_tnl, shaped_l, dSlM, g1N, dIsi, tyD, gListD, gListM, gTupleM, sPar, dgPair, isT_it, isT_is, isT_ib, isT_ii, isT_tt, gInS, sTry, xCall, xSeq, xIf, xThen, xRaise, dIsE, dNum, dRep1, gAddT, isT_ss, isT_st, isT_ts, dLstRng, sAugI, g3A]
    intro p hp
    try simp only [sSeq, sAsg, sRet, sIf, sDrop, sNext, sNever, dOp, dUn, dVar, dC, dTest, isBool, dAnd, dOr, dNot, dAndV, dOrV, dNotV, dIf, dCons, dNil, dTup, dLst, dLstM, datas, dCall, dCB, gI0, gI, gB0, g1I, gAdd, gEqD, gNeD, gIx, gIn, g1A, g2A, gInt, gLen, gTuple, gSum, gBest, dSl, dNoPart, dPart, dgName, dgTup, dgCons, dgNil, dgSub, gSetI, dIndexT, dChain, startD, List.map_cons, List.map_nil, List.length_cons, List.length_nil, List.replicate, List.append, List.cons_append, List.nil_append, List.getElem?_cons_zero, List.getElem?_cons_succ, List.set_cons_zero, List.set_cons_succ, Option.some.injEq, Dv.d.injEq, Dv.r.injEq, PyData.tuple.injEq, PyData.list.injEq, PyData.str.injEq, PyData.int.injEq, exists_eq_left', Option.map_some, Nat.zero_add, Nat.reduceAdd, Nat.reduceSub, true_and, and_true, exists_and_left, at0, at1, at2, at3, at4, eqv_int, shaped_int, eqv_pr, shaped_pr, bes, intsD, in4, flat4, flatI, Bool.not_eq_true', decide_eq_false_iff_not, not_true_eq_false, if_true, if_false, Bool.not_true, Bool.not_false, Bool.false_eq_true, Bool.true_eq_false, Bool.or_eq_false_iff,  shaped_tn, shaped_hd, shaped_r, decide_eq_true_eq, sizeLine_eq, Nat.reduceLeDiff, Int.reduceToNat, Int.reducePow, Int.reduceMul, Int.reduceAdd, Int.reduceSub, Int.reduceNeg, Int.reduceMod, setM_same, MO.lst.injEq, setM_setM, ix0, ix1, ix2, ix3, ix4, dPick, keyOf, dSlT, dTupRng, gAppend, dAppend, g2B, dM1, eqv_tn, eqv_tnl, shaped_l, dSlM, g1N, dIsi, tyD, gListD, gListM, gTupleM, sPar, dgPair, isT_it, isT_is, isT_ib, isT_ii, isT_tt, gInS, sTry, xCall, xSeq, xIf, xThen, xRaise, dIsE, dNum, dRep1, gAddT, isT_ss, isT_st, isT_ts, dLstRng, sAugI, g3A]
    have hmx := max3_spec f s s2
    generalize hlo : max3 f s s2 = lo at *
    unfold sWhile
    refine ⟨fun k δ m' => ∃ (n : Int) (v6 : Option Dv), δ = [some (spi s q r), some (spi s2 q2 r2), some (I f), some (I t), some (.r p), some (I n), v6] ∧ m' = setM m p (.lst ((fromTo lo (minI n (t + 1) - lo).toNat (sameN s q r s2 q2 r2)).map fun i => I i)) ∧ k = (t + 1 - n).toNat ∧ lo ≤ n, ⟨_, lo, none, rfl, ?_, rfl, Int.le_refl _⟩, ?_⟩
    · rw [show (minI lo (t + 1) - lo).toNat = 0 by unfold minI; split <;> omega]; rfl
    · rintro k δ m' ⟨n, v6, rfl, rfl, rfl, hn⟩
      try simp only [sSeq, sAsg, sRet, sIf, sDrop, sNext, sNever, dOp, dUn, dVar, dC, dTest, isBool, dAnd, dOr, dNot, dAndV, dOrV, dNotV, dIf, dCons, dNil, dTup, dLst, dLstM, datas, dCall, dCB, gI0, gI, gB0, g1I, gAdd, gEqD, gNeD, gIx, gIn, g1A, g2A, gInt, gLen, gTuple, gSum, gBest, dSl, dNoPart, dPart, dgName, dgTup, dgCons, dgNil, dgSub, gSetI, dIndexT, dChain, startD, List.map_cons, List.map_nil, List.length_cons, List.length_nil, List.replicate, List.append, List.cons_append, List.nil_append, List.getElem?_cons_zero, List.getElem?_cons_succ, List.set_cons_zero, List.set_cons_succ, Option.some.injEq, Dv.d.injEq, Dv.r.injEq, PyData.tuple.injEq, PyData.list.injEq, PyData.str.injEq, PyData.int.injEq, exists_eq_left', Option.map_some, Nat.zero_add, Nat.reduceAdd, Nat.reduceSub, true_and, and_true, exists_and_left, at0, at1, at2, at3, at4, eqv_int, shaped_int, eqv_pr, shaped_pr, bes, intsD, in4, flat4, flatI, Bool.not_eq_true', decide_eq_false_iff_not, not_true_eq_false, if_true, if_false, Bool.not_true, Bool.not_false, Bool.false_eq_true, Bool.true_eq_false, Bool.or_eq_false_iff,  shaped_tn, shaped_hd, shaped_r, decide_eq_true_eq, sizeLine_eq, Nat.reduceLeDiff, Int.reduceToNat, Int.reducePow, Int.reduceMul, Int.reduceAdd, Int.reduceSub, Int.reduceNeg, Int.reduceMod, setM_same, MO.lst.injEq, setM_setM, ix0, ix1, ix2, ix3, ix4, dPick, keyOf, dSlT, dTupRng, gAppend, dAppend, g2B, dM1, eqv_tn, eqv_tnl, shaped_l, dSlM, g1N, dIsi, tyD, gListD, gListM, gTupleM, sPar, dgPair, isT_it, isT_is, isT_ib, isT_ii, isT_tt, gInS, sTry, xCall, xSeq, xIf, xThen, xRaise, dIsE, dNum, dRep1, gAddT, isT_ss, isT_st, isT_ts, dLstRng, sAugI, g3A]
      by_cases c : n ≤ t
      · rw [if_pos c]
        refine ⟨fun δ' m2 => ∃ (n' : Int) (v6 : Option Dv), δ' = [some (spi s q r), some (spi s2 q2 r2), some (I f), some (I t), some (.r p), some (I n'), v6] ∧ m2 = setM m p (.lst ((fromTo lo (minI n' (t + 1) - lo).toNat (sameN s q r s2 q2 r2)).map fun i => I i)) ∧ n < n', ?_, ?_⟩
        · rintro δ' m2 ⟨n', v6', rfl, rfl, hn'⟩
          exact ⟨_, by omega, n', v6', rfl, rfl, rfl, by omega⟩
        · refine ⟨s, q, r, n, rfl, l, by omega, fun x y h => ?_⟩
          try simp only [sSeq, sAsg, sRet, sIf, sDrop, sNext, sNever, dOp, dUn, dVar, dC, dTest, isBool, dAnd, dOr, dNot, dAndV, dOrV, dNotV, dIf, dCons, dNil, dTup, dLst, dLstM, datas, dCall, dCB, gI0, gI, gB0, g1I, gAdd, gEqD, gNeD, gIx, gIn, g1A, g2A, gInt, gLen, gTuple, gSum, gBest, dSl, dNoPart, dPart, dgName, dgTup, dgCons, dgNil, dgSub, gSetI, dIndexT, dChain, startD, List.map_cons, List.map_nil, List.length_cons, List.length_nil, List.replicate, List.append, List.cons_append, List.nil_append, List.getElem?_cons_zero, List.getElem?_cons_succ, List.set_cons_zero, List.set_cons_succ, Option.some.injEq, Dv.d.injEq, Dv.r.injEq, PyData.tuple.injEq, PyData.list.injEq, PyData.str.injEq, PyData.int.injEq, exists_eq_left', Option.map_some, Nat.zero_add, Nat.reduceAdd, Nat.reduceSub, true_and, and_true, exists_and_left, at0, at1, at2, at3, at4, eqv_int, shaped_int, eqv_pr, shaped_pr, bes, intsD, in4, flat4, flatI, Bool.not_eq_true', decide_eq_false_iff_not, not_true_eq_false, if_true, if_false, Bool.not_true, Bool.not_false, Bool.false_eq_true, Bool.true_eq_false, Bool.or_eq_false_iff,  shaped_tn, shaped_hd, shaped_r, decide_eq_true_eq, sizeLine_eq, Nat.reduceLeDiff, Int.reduceToNat, Int.reducePow, Int.reduceMul, Int.reduceAdd, Int.reduceSub, Int.reduceNeg, Int.reduceMod, setM_same, MO.lst.injEq, setM_setM, ix0, ix1, ix2, ix3, ix4, dPick, keyOf, dSlT, dTupRng, gAppend, dAppend, g2B, dM1, eqv_tn, eqv_tnl, shaped_l, dSlM, g1N, dIsi, tyD, gListD, gListM, gTupleM, sPar, dgPair, isT_it, isT_is, isT_ib, isT_ii, isT_tt, gInS, sTry, xCall, xSeq, xIf, xThen, xRaise, dIsE, dNum, dRep1, gAddT, isT_ss, isT_st, isT_ts, dLstRng, sAugI, g3A]
          refine ⟨s2, q2, r2, n, rfl, l2, by omega, fun x2 y2 h2 => ?_⟩
          try simp only [sSeq, sAsg, sRet, sIf, sDrop, sNext, sNever, dOp, dUn, dVar, dC, dTest, isBool, dAnd, dOr, dNot, dAndV, dOrV, dNotV, dIf, dCons, dNil, dTup, dLst, dLstM, datas, dCall, dCB, gI0, gI, gB0, g1I, gAdd, gEqD, gNeD, gIx, gIn, g1A, g2A, gInt, gLen, gTuple, gSum, gBest, dSl, dNoPart, dPart, dgName, dgTup, dgCons, dgNil, dgSub, gSetI, dIndexT, dChain, startD, List.map_cons, List.map_nil, List.length_cons, List.length_nil, List.replicate, List.append, List.cons_append, List.nil_append, List.getElem?_cons_zero, List.getElem?_cons_succ, List.set_cons_zero, List.set_cons_succ, Option.some.injEq, Dv.d.injEq, Dv.r.injEq, PyData.tuple.injEq, PyData.list.injEq, PyData.str.injEq, PyData.int.injEq, exists_eq_left', Option.map_some, Nat.zero_add, Nat.reduceAdd, Nat.reduceSub, true_and, and_true, exists_and_left, at0, at1, at2, at3, at4, eqv_int, shaped_int, eqv_pr, shaped_pr, bes, intsD, in4, flat4, flatI, Bool.not_eq_true', decide_eq_false_iff_not, not_true_eq_false, if_true, if_false, Bool.not_true, Bool.not_false, Bool.false_eq_true, Bool.true_eq_false, Bool.or_eq_false_iff,  shaped_tn, shaped_hd, shaped_r, decide_eq_true_eq, sizeLine_eq, Nat.reduceLeDiff, Int.reduceToNat, Int.reducePow, Int.reduceMul, Int.reduceAdd, Int.reduceSub, Int.reduceNeg, Int.reduceMod, setM_same, MO.lst.injEq, setM_setM, ix0, ix1, ix2, ix3, ix4, dPick, keyOf, dSlT, dTupRng, gAppend, dAppend, g2B, dM1, eqv_tn, eqv_tnl, shaped_l, dSlM, g1N, dIsi, tyD, gListD, gListM, gTupleM, sPar, dgPair, isT_it, isT_is, isT_ib, isT_ii, isT_tt, gInS, sTry, xCall, xSeq, xIf, xThen, xRaise, dIsE, dNum, dRep1, gAddT, isT_ss, isT_st, isT_ts, dLstRng, sAugI, g3A]
          refine ⟨x, y, x2, y2, rfl, ?_⟩
          obtain ⟨rfl, rfl⟩ := pl_eq l h
          obtain ⟨rfl, rfl⟩ := pl_eq l2 h2
          have hap : absI (px q r (n - s) - px q2 r2 (n - s2)) + absI (py q r (n - s) - py q2 r2 (n - s2)) = apN s q r s2 q2 r2 n := rfl
          rw [hap]
          try simp only [sSeq, sAsg, sRet, sIf, sDrop, sNext, sNever, dOp, dUn, dVar, dC, dTest, isBool, dAnd, dOr, dNot, dAndV, dOrV, dNotV, dIf, dCons, dNil, dTup, dLst, dLstM, datas, dCall, dCB, gI0, gI, gB0, g1I, gAdd, gEqD, gNeD, gIx, gIn, g1A, g2A, gInt, gLen, gTuple, gSum, gBest, dSl, dNoPart, dPart, dgName, dgTup, dgCons, dgNil, dgSub, gSetI, dIndexT, dChain, startD, List.map_cons, List.map_nil, List.length_cons, List.length_nil, List.replicate, List.append, List.cons_append, List.nil_append, List.getElem?_cons_zero, List.getElem?_cons_succ, List.set_cons_zero, List.set_cons_succ, Option.some.injEq, Dv.d.injEq, Dv.r.injEq, PyData.tuple.injEq, PyData.list.injEq, PyData.str.injEq, PyData.int.injEq, exists_eq_left', Option.map_some, Nat.zero_add, Nat.reduceAdd, Nat.reduceSub, true_and, and_true, exists_and_left, at0, at1, at2, at3, at4, eqv_int, shaped_int, eqv_pr, shaped_pr, bes, intsD, in4, flat4, flatI, Bool.not_eq_true', decide_eq_false_iff_not, not_true_eq_false, if_true, if_false, Bool.not_true, Bool.not_false, Bool.false_eq_true, Bool.true_eq_false, Bool.or_eq_false_iff,  shaped_tn, shaped_hd, shaped_r, decide_eq_true_eq, sizeLine_eq, Nat.reduceLeDiff, Int.reduceToNat, Int.reducePow, Int.reduceMul, Int.reduceAdd, Int.reduceSub, Int.reduceNeg, Int.reduceMod, setM_same, MO.lst.injEq, setM_setM, ix0, ix1, ix2, ix3, ix4, dPick, keyOf, dSlT, dTupRng, gAppend, dAppend, g2B, dM1, eqv_tn, eqv_tnl, shaped_l, dSlM, g1N, dIsi, tyD, gListD, gListM, gTupleM, sPar, dgPair, isT_it, isT_is, isT_ib, isT_ii, isT_tt, gInS, sTry, xCall, xSeq, xIf, xThen, xRaise, dIsE, dNum, dRep1, gAddT, isT_ss, isT_st, isT_ts, dLstRng, sAugI, g3A]
          have a0 := ap_nn s q r s2 q2 r2 n
          have mn : minI n (t + 1) = n := by unfold minI; split <;> omega
          rw [mn]
          by_cases d : apN s q r s2 q2 r2 n = 0
          · rw [if_pos d, d]
            try simp only [sSeq, sAsg, sRet, sIf, sDrop, sNext, sNever, dOp, dUn, dVar, dC, dTest, isBool, dAnd, dOr, dNot, dAndV, dOrV, dNotV, dIf, dCons, dNil, dTup, dLst, dLstM, datas, dCall, dCB, gI0, gI, gB0, g1I, gAdd, gEqD, gNeD, gIx, gIn, g1A, g2A, gInt, gLen, gTuple, gSum, gBest, dSl, dNoPart, dPart, dgName, dgTup, dgCons, dgNil, dgSub, gSetI, dIndexT, dChain, startD, List.map_cons, List.map_nil, List.length_cons, List.length_nil, List.replicate, List.append, List.cons_append, List.nil_append, List.getElem?_cons_zero, List.getElem?_cons_succ, List.set_cons_zero, List.set_cons_succ, Option.some.injEq, Dv.d.injEq, Dv.r.injEq, PyData.tuple.injEq, PyData.list.injEq, PyData.str.injEq, PyData.int.injEq, exists_eq_left', Option.map_some, Nat.zero_add, Nat.reduceAdd, Nat.reduceSub, true_and, and_true, exists_and_left, at0, at1, at2, at3, at4, eqv_int, shaped_int, eqv_pr, shaped_pr, bes, intsD, in4, flat4, flatI, Bool.not_eq_true', decide_eq_false_iff_not, not_true_eq_false, if_true, if_false, Bool.not_true, Bool.not_false, Bool.false_eq_true, Bool.true_eq_false, Bool.or_eq_false_iff,  shaped_tn, shaped_hd, shaped_r, decide_eq_true_eq, sizeLine_eq, Nat.reduceLeDiff, Int.reduceToNat, Int.reducePow, Int.reduceMul, Int.reduceAdd, Int.reduceSub, Int.reduceNeg, Int.reduceMod, setM_same, MO.lst.injEq, setM_setM, ix0, ix1, ix2, ix3, ix4, dPick, keyOf, dSlT, dTupRng, gAppend, dAppend, g2B, dM1, eqv_tn, eqv_tnl, shaped_l, dSlM, g1N, dIsi, tyD, gListD, gListM, gTupleM, sPar, dgPair, isT_it, isT_is, isT_ib, isT_ii, isT_tt, gInS, sTry, xCall, xSeq, xIf, xThen, xRaise, dIsE, dNum, dRep1, gAddT, isT_ss, isT_st, isT_ts, dLstRng, sAugI, g3A]
            refine ⟨⟨_, rfl⟩, ?_, by unfold CDivB; decide, _, _, rfl, ?_, by unfold maxI; split <;> omega⟩
            · rw [List.length_map]
              have := ft_len lo (n - lo).toNat (sameN s q r s2 q2 r2)
              omega
            · rw [ft_same hn c d, List.map_append]; rfl
          · rw [if_neg d]
            try simp only [sSeq, sAsg, sRet, sIf, sDrop, sNext, sNever, dOp, dUn, dVar, dC, dTest, isBool, dAnd, dOr, dNot, dAndV, dOrV, dNotV, dIf, dCons, dNil, dTup, dLst, dLstM, datas, dCall, dCB, gI0, gI, gB0, g1I, gAdd, gEqD, gNeD, gIx, gIn, g1A, g2A, gInt, gLen, gTuple, gSum, gBest, dSl, dNoPart, dPart, dgName, dgTup, dgCons, dgNil, dgSub, gSetI, dIndexT, dChain, startD, List.map_cons, List.map_nil, List.length_cons, List.length_nil, List.replicate, List.append, List.cons_append, List.nil_append, List.getElem?_cons_zero, List.getElem?_cons_succ, List.set_cons_zero, List.set_cons_succ, Option.some.injEq, Dv.d.injEq, Dv.r.injEq, PyData.tuple.injEq, PyData.list.injEq, PyData.str.injEq, PyData.int.injEq, exists_eq_left', Option.map_some, Nat.zero_add, Nat.reduceAdd, Nat.reduceSub, true_and, and_true, exists_and_left, at0, at1, at2, at3, at4, eqv_int, shaped_int, eqv_pr, shaped_pr, bes, intsD, in4, flat4, flatI, Bool.not_eq_true', decide_eq_false_iff_not, not_true_eq_false, if_true, if_false, Bool.not_true, Bool.not_false, Bool.false_eq_true, Bool.true_eq_false, Bool.or_eq_false_iff,  shaped_tn, shaped_hd, shaped_r, decide_eq_true_eq, sizeLine_eq, Nat.reduceLeDiff, Int.reduceToNat, Int.reducePow, Int.reduceMul, Int.reduceAdd, Int.reduceSub, Int.reduceNeg, Int.reduceMod, setM_same, MO.lst.injEq, setM_setM, ix0, ix1, ix2, ix3, ix4, dPick, keyOf, dSlT, dTupRng, gAppend, dAppend, g2B, dM1, eqv_tn, eqv_tnl, shaped_l, dSlM, g1N, dIsi, tyD, gListD, gListM, gTupleM, sPar, dgPair, isT_it, isT_is, isT_ib, isT_ii, isT_tt, gInS, sTry, xCall, xSeq, xIf, xThen, xRaise, dIsE, dNum, dRep1, gAddT, isT_ss, isT_st, isT_ts, dLstRng, sAugI, g3A]
            refine ⟨by unfold CDivB; decide, _, _, rfl, ?_, by unfold maxI; split <;> omega⟩
            rw [ft_not l l2 hn (by omega) (by omega) c d]
      · rw [if_neg c]
        have mn : minI n (t + 1) = t + 1 := by unfold minI; split <;> omega
        rw [mn]
        try simp only [sSeq, sAsg, sRet, sIf, sDrop, sNext, sNever, dOp, dUn, dVar, dC, dTest, isBool, dAnd, dOr, dNot, dAndV, dOrV, dNotV, dIf, dCons, dNil, dTup, dLst, dLstM, datas, dCall, dCB, gI0, gI, gB0, g1I, gAdd, gEqD, gNeD, gIx, gIn, g1A, g2A, gInt, gLen, gTuple, gSum, gBest, dSl, dNoPart, dPart, dgName, dgTup, dgCons, dgNil, dgSub, gSetI, dIndexT, dChain, startD, List.map_cons, List.map_nil, List.length_cons, List.length_nil, List.replicate, List.append, List.cons_append, List.nil_append, List.getElem?_cons_zero, List.getElem?_cons_succ, List.set_cons_zero, List.set_cons_succ, Option.some.injEq, Dv.d.injEq, Dv.r.injEq, PyData.tuple.injEq, PyData.list.injEq, PyData.str.injEq, PyData.int.injEq, exists_eq_left', Option.map_some, Nat.zero_add, Nat.reduceAdd, Nat.reduceSub, true_and, and_true, exists_and_left, at0, at1, at2, at3, at4, eqv_int, shaped_int, eqv_pr, shaped_pr, bes, intsD, in4, flat4, flatI, Bool.not_eq_true', decide_eq_false_iff_not, not_true_eq_false, if_true, if_false, Bool.not_true, Bool.not_false, Bool.false_eq_true, Bool.true_eq_false, Bool.or_eq_false_iff,  shaped_tn, shaped_hd, shaped_r, decide_eq_true_eq, sizeLine_eq, Nat.reduceLeDiff, Int.reduceToNat, Int.reducePow, Int.reduceMul, Int.reduceAdd, Int.reduceSub, Int.reduceNeg, Int.reduceMod, setM_same, MO.lst.injEq, setM_setM, ix0, ix1, ix2, ix3, ix4, dPick, keyOf, dSlT, dTupRng, gAppend, dAppend, g2B, dM1, eqv_tn, eqv_tnl, shaped_l, dSlM, g1N, dIsi, tyD, gListD, gListM, gTupleM, sPar, dgPair, isT_it, isT_is, isT_ib, isT_ii, isT_tt, gInS, sTry, xCall, xSeq, xIf, xThen, xRaise, dIsE, dNum, dRep1, gAddT, isT_ss, isT_st, isT_ts, dLstRng, sAugI, g3A]
        exact ⟨_, map_id2 _, m, fun b o hb => by rw [setM_ne (fun e => by rw [e, hp] at hb; cases hb)]; exact hb, z⟩
theorem sc__law_deck : FnScope ["script", "great", "mixed", "cell"] ["script"] (defScope s__law_deck) := ⟨rfl, rfl, rfl, by decide +kernel, rfl, by decide +kernel, by decide +kernel⟩
theorem ok__law_deck (T : Tx K mg) : FnOk P w K mg base CX0 1 T.a__law_deck T.fd__law_deck ["script"] (spD K F__law_deck) := by
  refine Fun.okD T.F__law_deck sc__law_deck mo__law_deck (fun ds m Q h => ?_) (fun cdv A outer s H E hr => ?_)
  · unfold F__law_deck at h; obtain ⟨ns, rfl, l, z⟩ := h; rfl
  · refine ⟨_, (dss_cons (ds_set (i := 1) sc__law_deck.nd rfl (by first | exact Or.inl rfl | exact Or.inr rfl) de_int)
      (dss_cons (ds_set (i := 2) sc__law_deck.nd rfl (by first | exact Or.inl rfl | exact Or.inr rfl) (de_add (de_mul de_int (de_len (by rfl) T.b_len (da_cons (dv 0) da_nil))) de_int))
      (dss_cons (ds_for PassesOwn.never rfl (di_list (de_slice (dv 0) do_none (do_some de_int))) (dg_name (i := 3) sc__law_deck.nd rfl (by first | exact Or.inl rfl | exact Or.inr rfl)) (dss_one (ds_if (dt_ge (de_abs (by rfl) T.b_abs (da_cons (dv 3) da_nil)) (de_pow de_int de_int)) (dss_one (ds_set (i := 1) sc__law_deck.nd rfl (by first | exact Or.inl rfl | exact Or.inr rfl) (de_add (de_shlB (dv 1) de_int) (de_abs (by rfl) T.b_abs (da_cons (dv 3) da_nil))))) (dss_one (ds_set (i := 2) sc__law_deck.nd rfl (by first | exact Or.inl rfl | exact Or.inr rfl) (de_mod (de_add (de_mul (dv 2) de_int) (dv 3)) de_int))))))
      (dss_one (ds_ret (de_lstM (da_cons (dv 1) (da_cons (dv 2) (da_cons de_int da_nil))))))))), fun ds m Q h => ?_⟩
    obtain ⟨ns, rfl, l, z⟩ := h
    try simp only [sSeq, sAsg, sRet, sIf, sDrop, sNext, sNever, dOp, dUn, dVar, dC, dTest, isBool, dAnd, dOr, dNot, dAndV, dOrV, dNotV, dIf, dCons, dNil, dTup, dLst, dLstM, datas, dCall, dCB, gI0, gI, gB0, g1I, gAdd, gEqD, gNeD, gIx, gIn, g1A, g2A, gInt, gLen, gTuple, gSum, gBest, dSl, dNoPart, dPart, dgName, dgTup, dgCons, dgNil, dgSub, gSetI, dIndexT, dChain, startD, List.map_cons, List.map_nil, List.length_cons, List.length_nil, List.replicate, List.append, List.cons_append, List.nil_append, List.getElem?_cons_zero, List.getElem?_cons_succ, List.set_cons_zero, List.set_cons_succ, Option.some.injEq, Dv.d.injEq, Dv.r.injEq, PyData.tuple.injEq, PyData.list.injEq, PyData.str.injEq, PyData.int.injEq, exists_eq_left', Option.map_some, Nat.zero_add, Nat.reduceAdd, Nat.reduceSub, true_and, and_true, exists_and_left, at0, at1, at2, at3, at4, eqv_int, shaped_int, eqv_pr, shaped_pr, bes, intsD, in4, flat4, flatI, Bool.not_eq_true', decide_eq_false_iff_not, not_true_eq_false, if_true, if_false, Bool.not_true, Bool.not_false, Bool.false_eq_true, Bool.true_eq_false, Bool.or_eq_false_iff,  shaped_tn, shaped_hd, shaped_r, decide_eq_true_eq, sizeLine_eq, Nat.reduceLeDiff, Int.reduceToNat, Int.reducePow, Int.reduceMul, Int.reduceAdd, Int.reduceSub, Int.reduceNeg, Int.reduceMod, setM_same, MO.lst.injEq, setM_setM, ix0, ix1, ix2, ix3, ix4, dPick, keyOf, dSlT, dTupRng, gAppend, dAppend, g2B, dM1, eqv_tn, eqv_tnl, shaped_l]
    refine ⟨by unfold CMul; omega, ?_⟩
    unfold sFor dItL
    try simp only [sSeq, sAsg, sRet, sIf, sDrop, sNext, sNever, dOp, dUn, dVar, dC, dTest, isBool, dAnd, dOr, dNot, dAndV, dOrV, dNotV, dIf, dCons, dNil, dTup, dLst, dLstM, datas, dCall, dCB, gI0, gI, gB0, g1I, gAdd, gEqD, gNeD, gIx, gIn, g1A, g2A, gInt, gLen, gTuple, gSum, gBest, dSl, dNoPart, dPart, dgName, dgTup, dgCons, dgNil, dgSub, gSetI, dIndexT, dChain, startD, List.map_cons, List.map_nil, List.length_cons, List.length_nil, List.replicate, List.append, List.cons_append, List.nil_append, List.getElem?_cons_zero, List.getElem?_cons_succ, List.set_cons_zero, List.set_cons_succ, Option.some.injEq, Dv.d.injEq, Dv.r.injEq, PyData.tuple.injEq, PyData.list.injEq, PyData.str.injEq, PyData.int.injEq, exists_eq_left', Option.map_some, Nat.zero_add, Nat.reduceAdd, Nat.reduceSub, true_and, and_true, exists_and_left, at0, at1, at2, at3, at4, eqv_int, shaped_int, eqv_pr, shaped_pr, bes, intsD, in4, flat4, flatI, Bool.not_eq_true', decide_eq_false_iff_not, not_true_eq_false, if_true, if_false, Bool.not_true, Bool.not_false, Bool.false_eq_true, Bool.true_eq_false, Bool.or_eq_false_iff,  shaped_tn, shaped_hd, shaped_r, decide_eq_true_eq, sizeLine_eq, Nat.reduceLeDiff, Int.reduceToNat, Int.reducePow, Int.reduceMul, Int.reduceAdd, Int.reduceSub, Int.reduceNeg, Int.reduceMod, setM_same, MO.lst.injEq, setM_setM, ix0, ix1, ix2, ix3, ix4, dPick, keyOf, dSlT, dTupRng, gAppend, dAppend, g2B, dM1, eqv_tn, eqv_tnl, shaped_l]
    refine ⟨DkInv ns m, ⟨0, _, none, rfl, rfl, by decide, Nat.two_pow_pos _, by omega, by rw [List.length_map]; omega⟩, fun _ _ _ _ => trivial, ?_, ?_⟩
    · rintro i d δ m' hx ⟨g, x, k, rfl, rfl, g0, g1, x0, x1⟩
      rw [cut63 l.1] at hx
      rw [List.map_map, List.getElem?_map] at hx
      obtain ⟨cell, hc, rfl⟩ := Option.map_eq_some_iff.mp hx
      have hi : i < ns.length := (List.getElem?_eq_some_iff.mp hc).1
      have t1 := bits_take ns i cell hc
      have t2 := bits_take_le ns (i + 1)
      simp only [Function.comp_def]
      try simp only [sSeq, sAsg, sRet, sIf, sDrop, sNext, sNever, dOp, dUn, dVar, dC, dTest, isBool, dAnd, dOr, dNot, dAndV, dOrV, dNotV, dIf, dCons, dNil, dTup, dLst, dLstM, datas, dCall, dCB, gI0, gI, gB0, g1I, gAdd, gEqD, gNeD, gIx, gIn, g1A, g2A, gInt, gLen, gTuple, gSum, gBest, dSl, dNoPart, dPart, dgName, dgTup, dgCons, dgNil, dgSub, gSetI, dIndexT, dChain, startD, List.map_cons, List.map_nil, List.length_cons, List.length_nil, List.replicate, List.append, List.cons_append, List.nil_append, List.getElem?_cons_zero, List.getElem?_cons_succ, List.set_cons_zero, List.set_cons_succ, Option.some.injEq, Dv.d.injEq, Dv.r.injEq, PyData.tuple.injEq, PyData.list.injEq, PyData.str.injEq, PyData.int.injEq, exists_eq_left', Option.map_some, Nat.zero_add, Nat.reduceAdd, Nat.reduceSub, true_and, and_true, exists_and_left, at0, at1, at2, at3, at4, eqv_int, shaped_int, eqv_pr, shaped_pr, bes, intsD, in4, flat4, flatI, Bool.not_eq_true', decide_eq_false_iff_not, not_true_eq_false, if_true, if_false, Bool.not_true, Bool.not_false, Bool.false_eq_true, Bool.true_eq_false, Bool.or_eq_false_iff,  shaped_tn, shaped_hd, shaped_r, decide_eq_true_eq, sizeLine_eq, Nat.reduceLeDiff, Int.reduceToNat, Int.reducePow, Int.reduceMul, Int.reduceAdd, Int.reduceSub, Int.reduceNeg, Int.reduceMod, setM_same, MO.lst.injEq, setM_setM, ix0, ix1, ix2, ix3, ix4, dPick, keyOf, dSlT, dTupRng, gAppend, dAppend, g2B, dM1, eqv_tn, eqv_tnl, shaped_l]
      refine ⟨by unfold CPow; decide, ?_⟩
      by_cases hb : 1000000000000000000 ≤ absI cell
      · rw [if_pos hb]
        have hg := bits_le g1
        obtain ⟨u1, u2⟩ := deck_up (c := cell) (E := 206 * (i + 1) + bitsOf (ns.take (i + 1))) g0 g1 (Nat.le_refl _) (by omega)
        rw [e205] at u1 u2
        exact ⟨⟨by decide, by omega⟩, _, _, _, rfl, rfl, u2, u1, x0, x1⟩
      · rw [if_neg hb]
        exact ⟨by unfold CMul; omega, by decide, _, _, _, rfl, rfl, g0, Nat.lt_of_lt_of_le g1 (Nat.pow_le_pow_right (by decide) (by omega)), by omega, by omega⟩
    · rintro δ m' ⟨g, x, k, rfl, rfl, g0, g1, x0, x1⟩
      try simp only [sSeq, sAsg, sRet, sIf, sDrop, sNext, sNever, dOp, dUn, dVar, dC, dTest, isBool, dAnd, dOr, dNot, dAndV, dOrV, dNotV, dIf, dCons, dNil, dTup, dLst, dLstM, datas, dCall, dCB, gI0, gI, gB0, g1I, gAdd, gEqD, gNeD, gIx, gIn, g1A, g2A, gInt, gLen, gTuple, gSum, gBest, dSl, dNoPart, dPart, dgName, dgTup, dgCons, dgNil, dgSub, gSetI, dIndexT, dChain, startD, List.map_cons, List.map_nil, List.length_cons, List.length_nil, List.replicate, List.append, List.cons_append, List.nil_append, List.getElem?_cons_zero, List.getElem?_cons_succ, List.set_cons_zero, List.set_cons_succ, Option.some.injEq, Dv.d.injEq, Dv.r.injEq, PyData.tuple.injEq, PyData.list.injEq, PyData.str.injEq, PyData.int.injEq, exists_eq_left', Option.map_some, Nat.zero_add, Nat.reduceAdd, Nat.reduceSub, true_and, and_true, exists_and_left, at0, at1, at2, at3, at4, eqv_int, shaped_int, eqv_pr, shaped_pr, bes, intsD, in4, flat4, flatI, Bool.not_eq_true', decide_eq_false_iff_not, not_true_eq_false, if_true, if_false, Bool.not_true, Bool.not_false, Bool.false_eq_true, Bool.true_eq_false, Bool.or_eq_false_iff,  shaped_tn, shaped_hd, shaped_r, decide_eq_true_eq, sizeLine_eq, Nat.reduceLeDiff, Int.reduceToNat, Int.reducePow, Int.reduceMul, Int.reduceAdd, Int.reduceSub, Int.reduceNeg, Int.reduceMod, setM_same, MO.lst.injEq, setM_setM, ix0, ix1, ix2, ix3, ix4, dPick, keyOf, dSlT, dTupRng, gAppend, dAppend, g2B, dM1, eqv_tn, eqv_tnl, shaped_l]
      exact fun p hp => z p _ hp ⟨g, x, 0, rfl, g0, ⟨x0, x1⟩, by decide, by decide⟩
theorem sc__law_draw : FnScope ["deck", "most", "found", "turn", "one"] ["deck", "most"] (defScope s__law_draw) := ⟨rfl, rfl, rfl, by decide +kernel, rfl, by decide +kernel, by decide +kernel⟩
theorem ok__law_draw (T : Tx K mg) : FnOk P w K mg base CX0 1 T.a__law_draw T.fd__law_draw ["deck", "most"] (spD K F__law_draw) := by
  refine Fun.okD T.F__law_draw sc__law_draw mo__law_draw (fun ds m Q h => ?_) (fun cdv A outer s H E hr => ?_)
  · unfold F__law_draw at h; obtain ⟨a, many, o, c, rfl, l, hm, hd, hc, z⟩ := h; rfl
  · refine ⟨_, (dss_cons (ds_asg (de_add (de_ix (dv 0) de_int) de_int) (dg_sub (dv 0) de_int))
      (dss_cons (ds_if (dt_gt (de_ix (dv 0) de_int) de_int) (dss_cons (ds_set (i := 2) sc__law_draw.nd rfl (by first | exact Or.inl rfl | exact Or.inr rfl) (de_mod (de_ix (dv 0) de_int) (dv 1)))
      (dss_cons (ds_asg (de_fdiv (de_ix (dv 0) de_int) (dv 1)) (dg_sub (dv 0) de_int))
      (dss_one (ds_ret (dv 2))))) dss_nil)
      (dss_cons (ds_set (i := 3) sc__law_draw.nd rfl (by first | exact Or.inl rfl | exact Or.inr rfl) (de_ix (dv 0) de_int))
      (dss_cons (ds_set (i := 4) sc__law_draw.nd rfl (by first | exact Or.inl rfl | exact Or.inr rfl) (de_mod (de_add (de_add (de_ix (dv 0) de_int) (de_mul (de_mul de_int (dv 3)) (dv 3))) (de_mul de_int (dv 3))) de_int))
      (dss_cons (ds_set (i := 4) sc__law_draw.nd rfl (by first | exact Or.inl rfl | exact Or.inr rfl) (de_mod (de_mul (dv 4) (dv 4)) de_int))
      (dss_one (ds_ret (de_mod (de_fdiv (de_mod (de_add (de_mul (dv 4) de_int) (de_mul (dv 3) de_int)) de_int) de_int) (dv 1))))))))), fun ds m Q h => ?_⟩
    obtain ⟨a, many, o, c, rfl, l, hm, hd, hc, z⟩ := h
    obtain ⟨g, x, t, rfl, h1, h2, h3, h4⟩ := hd
    try simp only [sSeq, sAsg, sRet, sIf, sDrop, sNext, sNever, dOp, dUn, dVar, dC, dTest, isBool, dAnd, dOr, dNot, dAndV, dOrV, dNotV, dIf, dCons, dNil, dTup, dLst, dLstM, datas, dCall, dCB, gI0, gI, gB0, g1I, gAdd, gEqD, gNeD, gIx, gIn, g1A, g2A, gInt, gLen, gTuple, gSum, gBest, dSl, dNoPart, dPart, dgName, dgTup, dgCons, dgNil, dgSub, gSetI, dIndexT, dChain, startD, List.map_cons, List.map_nil, List.length_cons, List.length_nil, List.replicate, List.append, List.cons_append, List.nil_append, List.getElem?_cons_zero, List.getElem?_cons_succ, List.set_cons_zero, List.set_cons_succ, Option.some.injEq, Dv.d.injEq, Dv.r.injEq, PyData.tuple.injEq, PyData.list.injEq, PyData.str.injEq, PyData.int.injEq, exists_eq_left', Option.map_some, Nat.zero_add, Nat.reduceAdd, Nat.reduceSub, true_and, and_true, exists_and_left, at0, at1, at2, at3, at4, eqv_int, shaped_int, eqv_pr, shaped_pr, bes, intsD, in4, flat4, flatI, Bool.not_eq_true', decide_eq_false_iff_not, not_true_eq_false, if_true, if_false, Bool.not_true, Bool.not_false, Bool.false_eq_true, Bool.true_eq_false, Bool.or_eq_false_iff,  shaped_tn, shaped_hd, shaped_r, decide_eq_true_eq, sizeLine_eq, Nat.reduceLeDiff, Int.reduceToNat, Int.reducePow, Int.reduceMul, Int.reduceAdd, Int.reduceSub, Int.reduceNeg, Int.reduceMod, setM_same, MO.lst.injEq, setM_setM, ix0, ix1, ix2, ix3, ix4, dPick, keyOf, dSlT, dTupRng, gAppend, dAppend, g2B, dM1, eqv_tn, eqv_tnl, shaped_l]
    simp only [hm, sSeq, sAsg, sRet, sIf, sDrop, sNext, sNever, dOp, dUn, dVar, dC, dTest, isBool, dAnd, dOr, dNot, dAndV, dOrV, dNotV, dIf, dCons, dNil, dTup, dLst, dLstM, datas, dCall, dCB, gI0, gI, gB0, g1I, gAdd, gEqD, gNeD, gIx, gIn, g1A, g2A, gInt, gLen, gTuple, gSum, gBest, dSl, dNoPart, dPart, dgName, dgTup, dgCons, dgNil, dgSub, gSetI, dIndexT, dChain, startD, List.map_cons, List.map_nil, List.length_cons, List.length_nil, List.replicate, List.append, List.cons_append, List.nil_append, List.getElem?_cons_zero, List.getElem?_cons_succ, List.set_cons_zero, List.set_cons_succ, Option.some.injEq, Dv.d.injEq, Dv.r.injEq, PyData.tuple.injEq, PyData.list.injEq, PyData.str.injEq, PyData.int.injEq, exists_eq_left', Option.map_some, Nat.zero_add, Nat.reduceAdd, Nat.reduceSub, true_and, and_true, exists_and_left, at0, at1, at2, at3, at4, eqv_int, shaped_int, eqv_pr, shaped_pr, bes, intsD, in4, flat4, flatI, Bool.not_eq_true', decide_eq_false_iff_not, not_true_eq_false, if_true, if_false, Bool.not_true, Bool.not_false, Bool.false_eq_true, Bool.true_eq_false, Bool.or_eq_false_iff,  shaped_tn, shaped_hd, shaped_r, decide_eq_true_eq, sizeLine_eq, Nat.reduceLeDiff, Int.reduceToNat, Int.reducePow, Int.reduceMul, Int.reduceAdd, Int.reduceSub, Int.reduceNeg, Int.reduceMod, setM_same, MO.lst.injEq, setM_setM, ix0, ix1, ix2, ix3, ix4, dPick, keyOf, dSlT, dTupRng, gAppend, dAppend, g2B, dM1, eqv_tn, eqv_tnl, shaped_l]
    have em : ∀ v : Int, 0 ≤ v % many ∧ v % many < many := fun v => ⟨Int.emod_nonneg _ (by omega), Int.emod_lt_of_pos _ l.1⟩
    by_cases c1 : 0 < g
    · rw [if_pos c1]
      exact ⟨l.1, ⟨l.1, by omega⟩, z _ _ (em _).1 (em _).2 ⟨_, x, _, rfl, Int.ediv_nonneg (by omega) (by omega), h2, by omega, by omega⟩⟩
    · rw [if_neg c1]
      generalize (x + 70003 * (t + 1) * (t + 1) + 5003 * (t + 1)) = w1
      have hw1 : 0 ≤ w1 % 2147483543 ∧ w1 % 2147483543 < 2147483543 := by omega
      generalize w1 % 2147483543 = w2 at *
      generalize w2 * w2 = w3 at *
      refine ⟨by unfold CMul; omega, by unfold CMul; omega, by unfold CMul; omega, by decide, by unfold CMul; omega, by decide, by unfold CMul; omega, by unfold CMul; omega, by decide, by unfold CDivB; decide, l.1, ?_⟩
      exact z _ _ (em _).1 (em _).2 ⟨g, x, _, rfl, h1, h2, by omega, by omega⟩
theorem sc__law_same : FnScope ["found", "due", "one", "other"] ["found", "due"] (defScope s__law_same) := ⟨rfl, rfl, rfl, by decide +kernel, rfl, by decide +kernel, by decide +kernel⟩
theorem ok__law_same0 (T : Tx K mg) : FnOk P w K mg base CX0 1 T.a__law_same T.fd__law_same ["found", "due"] (spD K F__law_same0) := by
  refine Fun.okD T.F__law_same sc__law_same mo__law_same0 (fun ds m Q h => ?_) (fun cdv A outer s H E hr => ?_)
  · unfold F__law_same0 at h; obtain ⟨d, rfl, c, z⟩ := h; rfl
  · refine ⟨_, (dss_cons (ds_if (dt_isN (dv 1)) (dss_one (ds_ret (de_isN (dv 0)))) dss_nil)
      (dss_cons (ds_if (dt_val (de_isi (T := "tuple") (by rfl) T.b_isinstance (by rfl) T.b_tuple (by decide +kernel) (by decide) (dv 1))) (dss_cons (ds_if (DW.dt (dw_or (dt_not (dt_val (de_isi (T := "tuple") (by rfl) T.b_isinstance (by rfl) T.b_tuple (by decide +kernel) (by decide) (dv 0)))) (dw_or1 (dt_ne hr (de_len (by rfl) T.b_len (da_cons (dv 0) da_nil)) (de_len (by rfl) T.b_len (da_cons (dv 1) da_nil)))))) (dss_one (ds_ret de_bl)) dss_nil)
      (dss_one (ds_ret (de_eq hr (de_lcP (i := 2) (j := 3) rfl sc__law_same.nd (by decide) (di_zip (by rfl) T.b_zip (da_cons (dv 0) (da_cons (dv 1) da_nil))) (blkOk_by (own := [("one", 2), ("other", 3)]) (N := ["found", "due", "one", "other"]) (sc := defScope s__law_same) (by decide +kernel)) rfl rfl (fun _ _ _ _ _ => pg_tup rfl (pgs_cons (pg_name (i := 2) sc__law_same.nd rfl (.inl rfl)) (pgs_cons (pg_name (i := 3) sc__law_same.nd rfl (.inl rfl)) pgs_nil))) (fun _ _ _ _ _ => (dts_one (dt_not (dt_val (de_call mo_never ok_never hr (by rfl) T.m__law_same T.F__law_same.kp T.n__law_same (da_cons (dv 2) (da_cons (dv 3) da_nil))))))) (fun _ _ _ _ _ => de_int)) (de_lst da_nil))))) dss_nil)
      (dss_cons (ds_if (dt_val (de_isi (T := "str") (by rfl) T.b_isinstance (by rfl) T.b_str (by decide +kernel) (by decide) (dv 1))) (dss_one (ds_ret (de_and (de_isi (T := "str") (by rfl) T.b_isinstance (by rfl) T.b_str (by decide +kernel) (by decide) (dv 0)) (de_one (de_eq hr (dv 0) (dv 1)))))) dss_nil)
      (dss_one (ds_ret (de_and (de_isi (T := "int") (by rfl) T.b_isinstance (by rfl) T.b_int (by decide +kernel) (by decide) (dv 0)) (de_and (de_not (de_isi (T := "bool") (by rfl) T.b_isinstance (by rfl) T.b_bool (by decide +kernel) (by decide) (dv 0))) (de_one (de_eq hr (dv 0) (dv 1)))))))))), fun ds m Q h => ?_⟩
    obtain ⟨d, rfl, c, z⟩ := h
    rcases c with ⟨x, rfl⟩ | ⟨x, rfl, sh⟩
    · try simp only [sSeq, sAsg, sRet, sIf, sDrop, sNext, sNever, dOp, dUn, dVar, dC, dTest, isBool, dAnd, dOr, dNot, dAndV, dOrV, dNotV, dIf, dCons, dNil, dTup, dLst, dLstM, datas, dCall, dCB, gI0, gI, gB0, g1I, gAdd, gEqD, gNeD, gIx, gIn, g1A, g2A, gInt, gLen, gTuple, gSum, gBest, dSl, dNoPart, dPart, dgName, dgTup, dgCons, dgNil, dgSub, gSetI, dIndexT, dChain, startD, List.map_cons, List.map_nil, List.length_cons, List.length_nil, List.replicate, List.append, List.cons_append, List.nil_append, List.getElem?_cons_zero, List.getElem?_cons_succ, List.set_cons_zero, List.set_cons_succ, Option.some.injEq, Dv.d.injEq, Dv.r.injEq, PyData.tuple.injEq, PyData.list.injEq, PyData.str.injEq, PyData.int.injEq, exists_eq_left', Option.map_some, Nat.zero_add, Nat.reduceAdd, Nat.reduceSub, true_and, and_true, exists_and_left, at0, at1, at2, at3, at4, eqv_int, shaped_int, eqv_pr, shaped_pr, bes, intsD, in4, flat4, flatI, Bool.not_eq_true', decide_eq_false_iff_not, not_true_eq_false, if_true, if_false, Bool.not_true, Bool.not_false, Bool.false_eq_true, Bool.true_eq_false, Bool.or_eq_false_iff,  shaped_tn, shaped_hd, shaped_r, decide_eq_true_eq, sizeLine_eq, Nat.reduceLeDiff, Int.reduceToNat, Int.reducePow, Int.reduceMul, Int.reduceAdd, Int.reduceSub, Int.reduceNeg, Int.reduceMod, setM_same, MO.lst.injEq, setM_setM, ix0, ix1, ix2, ix3, ix4, dPick, keyOf, dSlT, dTupRng, gAppend, dAppend, g2B, dM1, eqv_tn, eqv_tnl, shaped_l, dSlM, g1N, dIsi, tyD, gListD, gListM, gTupleM, sPar, dgPair, isT_it, isT_is, isT_ib, isT_ii, isT_tt, gInS, sTry, xCall, xSeq, xIf, xThen, xRaise, dIsE, dNum, dRep1, gAddT, isT_ss, isT_st, isT_ts]
      repeat' (first | exact z | refine And.intro ?_ ?_ | (show CMul _ _; unfold CMul; omega) | (show CDivB _ _; unfold CDivB; omega) | (show CPow _ _; unfold CPow; omega) | omega | decide)
    · try simp only [sSeq, sAsg, sRet, sIf, sDrop, sNext, sNever, dOp, dUn, dVar, dC, dTest, isBool, dAnd, dOr, dNot, dAndV, dOrV, dNotV, dIf, dCons, dNil, dTup, dLst, dLstM, datas, dCall, dCB, gI0, gI, gB0, g1I, gAdd, gEqD, gNeD, gIx, gIn, g1A, g2A, gInt, gLen, gTuple, gSum, gBest, dSl, dNoPart, dPart, dgName, dgTup, dgCons, dgNil, dgSub, gSetI, dIndexT, dChain, startD, List.map_cons, List.map_nil, List.length_cons, List.length_nil, List.replicate, List.append, List.cons_append, List.nil_append, List.getElem?_cons_zero, List.getElem?_cons_succ, List.set_cons_zero, List.set_cons_succ, Option.some.injEq, Dv.d.injEq, Dv.r.injEq, PyData.tuple.injEq, PyData.list.injEq, PyData.str.injEq, PyData.int.injEq, exists_eq_left', Option.map_some, Nat.zero_add, Nat.reduceAdd, Nat.reduceSub, true_and, and_true, exists_and_left, at0, at1, at2, at3, at4, eqv_int, shaped_int, eqv_pr, shaped_pr, bes, intsD, in4, flat4, flatI, Bool.not_eq_true', decide_eq_false_iff_not, not_true_eq_false, if_true, if_false, Bool.not_true, Bool.not_false, Bool.false_eq_true, Bool.true_eq_false, Bool.or_eq_false_iff,  shaped_tn, shaped_hd, shaped_r, decide_eq_true_eq, sizeLine_eq, Nat.reduceLeDiff, Int.reduceToNat, Int.reducePow, Int.reduceMul, Int.reduceAdd, Int.reduceSub, Int.reduceNeg, Int.reduceMod, setM_same, MO.lst.injEq, setM_setM, ix0, ix1, ix2, ix3, ix4, dPick, keyOf, dSlT, dTupRng, gAppend, dAppend, g2B, dM1, eqv_tn, eqv_tnl, shaped_l, dSlM, g1N, dIsi, tyD, gListD, gListM, gTupleM, sPar, dgPair, isT_it, isT_is, isT_ib, isT_ii, isT_tt, gInS, sTry, xCall, xSeq, xIf, xThen, xRaise, dIsE, dNum, dRep1, gAddT, isT_ss, isT_st, isT_ts]
      try rw [K11.eqv_same sh]
      repeat' (first | exact z | refine And.intro ?_ ?_ | (show CMul _ _; unfold CMul; omega) | (show CDivB _ _; unfold CDivB; omega) | (show CPow _ _; unfold CPow; omega) | omega | decide)
theorem ok__law_same (T : Tx K mg) : FnOk P w K mg base CX0 2 T.a__law_same T.fd__law_same ["found", "due"] (spD K F__law_same) := by
  refine Fun.okD T.F__law_same sc__law_same mo__law_same (fun ds m Q h => ?_) (fun cdv A outer s H E hr => ?_)
  · unfold F__law_same at h; obtain ⟨d, rfl, c, z⟩ := h; rfl
  · refine ⟨_, (dss_cons (ds_if (dt_isN (dv 1)) (dss_one (ds_ret (de_isN (dv 0)))) dss_nil)
      (dss_cons (ds_if (dt_val (de_isi (T := "tuple") (by rfl) T.b_isinstance (by rfl) T.b_tuple (by decide +kernel) (by decide) (dv 1))) (dss_cons (ds_if (DW.dt (dw_or (dt_not (dt_val (de_isi (T := "tuple") (by rfl) T.b_isinstance (by rfl) T.b_tuple (by decide +kernel) (by decide) (dv 0)))) (dw_or1 (dt_ne hr (de_len (by rfl) T.b_len (da_cons (dv 0) da_nil)) (de_len (by rfl) T.b_len (da_cons (dv 1) da_nil)))))) (dss_one (ds_ret de_bl)) dss_nil)
      (dss_one (ds_ret (de_eq hr (de_lcP (i := 2) (j := 3) rfl sc__law_same.nd (by decide) (di_zip (by rfl) T.b_zip (da_cons (dv 0) (da_cons (dv 1) da_nil))) (blkOk_by (own := [("one", 2), ("other", 3)]) (N := ["found", "due", "one", "other"]) (sc := defScope s__law_same) (by decide +kernel)) rfl rfl (fun _ _ _ _ _ => pg_tup rfl (pgs_cons (pg_name (i := 2) sc__law_same.nd rfl (.inl rfl)) (pgs_cons (pg_name (i := 3) sc__law_same.nd rfl (.inl rfl)) pgs_nil))) (fun _ _ _ _ _ => (dts_one (dt_not (dt_val (de_call mo__law_same0 ((ok__law_same0 T).mono (by decide : 1 ≤ 1)) hr (by rfl) T.m__law_same T.F__law_same.kp T.n__law_same (da_cons (dv 2) (da_cons (dv 3) da_nil))))))) (fun _ _ _ _ _ => de_int)) (de_lst da_nil))))) dss_nil)
      (dss_cons (ds_if (dt_val (de_isi (T := "str") (by rfl) T.b_isinstance (by rfl) T.b_str (by decide +kernel) (by decide) (dv 1))) (dss_one (ds_ret (de_and (de_isi (T := "str") (by rfl) T.b_isinstance (by rfl) T.b_str (by decide +kernel) (by decide) (dv 0)) (de_one (de_eq hr (dv 0) (dv 1)))))) dss_nil)
      (dss_one (ds_ret (de_and (de_isi (T := "int") (by rfl) T.b_isinstance (by rfl) T.b_int (by decide +kernel) (by decide) (dv 0)) (de_and (de_not (de_isi (T := "bool") (by rfl) T.b_isinstance (by rfl) T.b_bool (by decide +kernel) (by decide) (dv 0))) (de_one (de_eq hr (dv 0) (dv 1)))))))))), fun ds m Q h => ?_⟩
    obtain ⟨d, rfl, c, z⟩ := h
    rcases c with c | rfl | ⟨xs, hn, hf, rfl⟩
    · rcases c with ⟨x, rfl⟩ | ⟨x, rfl, sh⟩
      · try simp only [sSeq, sAsg, sRet, sIf, sDrop, sNext, sNever, dOp, dUn, dVar, dC, dTest, isBool, dAnd, dOr, dNot, dAndV, dOrV, dNotV, dIf, dCons, dNil, dTup, dLst, dLstM, datas, dCall, dCB, gI0, gI, gB0, g1I, gAdd, gEqD, gNeD, gIx, gIn, g1A, g2A, gInt, gLen, gTuple, gSum, gBest, dSl, dNoPart, dPart, dgName, dgTup, dgCons, dgNil, dgSub, gSetI, dIndexT, dChain, startD, List.map_cons, List.map_nil, List.length_cons, List.length_nil, List.replicate, List.append, List.cons_append, List.nil_append, List.getElem?_cons_zero, List.getElem?_cons_succ, List.set_cons_zero, List.set_cons_succ, Option.some.injEq, Dv.d.injEq, Dv.r.injEq, PyData.tuple.injEq, PyData.list.injEq, PyData.str.injEq, PyData.int.injEq, exists_eq_left', Option.map_some, Nat.zero_add, Nat.reduceAdd, Nat.reduceSub, true_and, and_true, exists_and_left, at0, at1, at2, at3, at4, eqv_int, shaped_int, eqv_pr, shaped_pr, bes, intsD, in4, flat4, flatI, Bool.not_eq_true', decide_eq_false_iff_not, not_true_eq_false, if_true, if_false, Bool.not_true, Bool.not_false, Bool.false_eq_true, Bool.true_eq_false, Bool.or_eq_false_iff,  shaped_tn, shaped_hd, shaped_r, decide_eq_true_eq, sizeLine_eq, Nat.reduceLeDiff, Int.reduceToNat, Int.reducePow, Int.reduceMul, Int.reduceAdd, Int.reduceSub, Int.reduceNeg, Int.reduceMod, setM_same, MO.lst.injEq, setM_setM, ix0, ix1, ix2, ix3, ix4, dPick, keyOf, dSlT, dTupRng, gAppend, dAppend, g2B, dM1, eqv_tn, eqv_tnl, shaped_l, dSlM, g1N, dIsi, tyD, gListD, gListM, gTupleM, sPar, dgPair, isT_it, isT_is, isT_ib, isT_ii, isT_tt, gInS, sTry, xCall, xSeq, xIf, xThen, xRaise, dIsE, dNum, dRep1, gAddT, isT_ss, isT_st, isT_ts]
        repeat' (first | exact z | refine And.intro ?_ ?_ | (show CMul _ _; unfold CMul; omega) | (show CDivB _ _; unfold CDivB; omega) | (show CPow _ _; unfold CPow; omega) | omega | decide)
      · try simp only [sSeq, sAsg, sRet, sIf, sDrop, sNext, sNever, dOp, dUn, dVar, dC, dTest, isBool, dAnd, dOr, dNot, dAndV, dOrV, dNotV, dIf, dCons, dNil, dTup, dLst, dLstM, datas, dCall, dCB, gI0, gI, gB0, g1I, gAdd, gEqD, gNeD, gIx, gIn, g1A, g2A, gInt, gLen, gTuple, gSum, gBest, dSl, dNoPart, dPart, dgName, dgTup, dgCons, dgNil, dgSub, gSetI, dIndexT, dChain, startD, List.map_cons, List.map_nil, List.length_cons, List.length_nil, List.replicate, List.append, List.cons_append, List.nil_append, List.getElem?_cons_zero, List.getElem?_cons_succ, List.set_cons_zero, List.set_cons_succ, Option.some.injEq, Dv.d.injEq, Dv.r.injEq, PyData.tuple.injEq, PyData.list.injEq, PyData.str.injEq, PyData.int.injEq, exists_eq_left', Option.map_some, Nat.zero_add, Nat.reduceAdd, Nat.reduceSub, true_and, and_true, exists_and_left, at0, at1, at2, at3, at4, eqv_int, shaped_int, eqv_pr, shaped_pr, bes, intsD, in4, flat4, flatI, Bool.not_eq_true', decide_eq_false_iff_not, not_true_eq_false, if_true, if_false, Bool.not_true, Bool.not_false, Bool.false_eq_true, Bool.true_eq_false, Bool.or_eq_false_iff,  shaped_tn, shaped_hd, shaped_r, decide_eq_true_eq, sizeLine_eq, Nat.reduceLeDiff, Int.reduceToNat, Int.reducePow, Int.reduceMul, Int.reduceAdd, Int.reduceSub, Int.reduceNeg, Int.reduceMod, setM_same, MO.lst.injEq, setM_setM, ix0, ix1, ix2, ix3, ix4, dPick, keyOf, dSlT, dTupRng, gAppend, dAppend, g2B, dM1, eqv_tn, eqv_tnl, shaped_l, dSlM, g1N, dIsi, tyD, gListD, gListM, gTupleM, sPar, dgPair, isT_it, isT_is, isT_ib, isT_ii, isT_tt, gInS, sTry, xCall, xSeq, xIf, xThen, xRaise, dIsE, dNum, dRep1, gAddT, isT_ss, isT_st, isT_ts]
        try rw [K11.eqv_same sh]
        repeat' (first | exact z | refine And.intro ?_ ?_ | (show CMul _ _; unfold CMul; omega) | (show CDivB _ _; unfold CDivB; omega) | (show CPow _ _; unfold CPow; omega) | omega | decide)
    · try simp only [sSeq, sAsg, sRet, sIf, sDrop, sNext, sNever, dOp, dUn, dVar, dC, dTest, isBool, dAnd, dOr, dNot, dAndV, dOrV, dNotV, dIf, dCons, dNil, dTup, dLst, dLstM, datas, dCall, dCB, gI0, gI, gB0, g1I, gAdd, gEqD, gNeD, gIx, gIn, g1A, g2A, gInt, gLen, gTuple, gSum, gBest, dSl, dNoPart, dPart, dgName, dgTup, dgCons, dgNil, dgSub, gSetI, dIndexT, dChain, startD, List.map_cons, List.map_nil, List.length_cons, List.length_nil, List.replicate, List.append, List.cons_append, List.nil_append, List.getElem?_cons_zero, List.getElem?_cons_succ, List.set_cons_zero, List.set_cons_succ, Option.some.injEq, Dv.d.injEq, Dv.r.injEq, PyData.tuple.injEq, PyData.list.injEq, PyData.str.injEq, PyData.int.injEq, exists_eq_left', Option.map_some, Nat.zero_add, Nat.reduceAdd, Nat.reduceSub, true_and, and_true, exists_and_left, at0, at1, at2, at3, at4, eqv_int, shaped_int, eqv_pr, shaped_pr, bes, intsD, in4, flat4, flatI, Bool.not_eq_true', decide_eq_false_iff_not, not_true_eq_false, if_true, if_false, Bool.not_true, Bool.not_false, Bool.false_eq_true, Bool.true_eq_false, Bool.or_eq_false_iff,  shaped_tn, shaped_hd, shaped_r, decide_eq_true_eq, sizeLine_eq, Nat.reduceLeDiff, Int.reduceToNat, Int.reducePow, Int.reduceMul, Int.reduceAdd, Int.reduceSub, Int.reduceNeg, Int.reduceMod, setM_same, MO.lst.injEq, setM_setM, ix0, ix1, ix2, ix3, ix4, dPick, keyOf, dSlT, dTupRng, gAppend, dAppend, g2B, dM1, eqv_tn, eqv_tnl, shaped_l, dSlM, g1N, dIsi, tyD, gListD, gListM, gTupleM, sPar, dgPair, isT_it, isT_is, isT_ib, isT_ii, isT_tt, gInS, sTry, xCall, xSeq, xIf, xThen, xRaise, dIsE, dNum, dRep1, gAddT, isT_ss, isT_st, isT_ts]
      repeat' (first | exact z | refine And.intro ?_ ?_ | (show CMul _ _; unfold CMul; omega) | (show CDivB _ _; unfold CDivB; omega) | (show CPow _ _; unfold CPow; omega) | omega | decide)
    · try simp only [sSeq, sAsg, sRet, sIf, sDrop, sNext, sNever, dOp, dUn, dVar, dC, dTest, isBool, dAnd, dOr, dNot, dAndV, dOrV, dNotV, dIf, dCons, dNil, dTup, dLst, dLstM, datas, dCall, dCB, gI0, gI, gB0, g1I, gAdd, gEqD, gNeD, gIx, gIn, g1A, g2A, gInt, gLen, gTuple, gSum, gBest, dSl, dNoPart, dPart, dgName, dgTup, dgCons, dgNil, dgSub, gSetI, dIndexT, dChain, startD, List.map_cons, List.map_nil, List.length_cons, List.length_nil, List.replicate, List.append, List.cons_append, List.nil_append, List.getElem?_cons_zero, List.getElem?_cons_succ, List.set_cons_zero, List.set_cons_succ, Option.some.injEq, Dv.d.injEq, Dv.r.injEq, PyData.tuple.injEq, PyData.list.injEq, PyData.str.injEq, PyData.int.injEq, exists_eq_left', Option.map_some, Nat.zero_add, Nat.reduceAdd, Nat.reduceSub, true_and, and_true, exists_and_left, at0, at1, at2, at3, at4, eqv_int, shaped_int, eqv_pr, shaped_pr, bes, intsD, in4, flat4, flatI, Bool.not_eq_true', decide_eq_false_iff_not, not_true_eq_false, if_true, if_false, Bool.not_true, Bool.not_false, Bool.false_eq_true, Bool.true_eq_false, Bool.or_eq_false_iff,  shaped_tn, shaped_hd, shaped_r, decide_eq_true_eq, sizeLine_eq, Nat.reduceLeDiff, Int.reduceToNat, Int.reducePow, Int.reduceMul, Int.reduceAdd, Int.reduceSub, Int.reduceNeg, Int.reduceMod, setM_same, MO.lst.injEq, setM_setM, ix0, ix1, ix2, ix3, ix4, dPick, keyOf, dSlT, dTupRng, gAppend, dAppend, g2B, dM1, eqv_tn, eqv_tnl, shaped_l, dSlM, g1N, dIsi, tyD, gListD, gListM, gTupleM, sPar, dgPair, isT_it, isT_is, isT_ib, isT_ii, isT_tt, gInS, sTry, xCall, xSeq, xIf, xThen, xRaise, dIsE, dNum, dRep1, gAddT, isT_ss, isT_st, isT_ts]
      refine dLc_fm (fun _ => none) (xs.map fun i => .d (.tuple [i, i])) (fun R hR => ?_) (by rw [List.length_map]; omega) ?_ ?_
      · unfold dZip
        try simp only [sSeq, sAsg, sRet, sIf, sDrop, sNext, sNever, dOp, dUn, dVar, dC, dTest, isBool, dAnd, dOr, dNot, dAndV, dOrV, dNotV, dIf, dCons, dNil, dTup, dLst, dLstM, datas, dCall, dCB, gI0, gI, gB0, g1I, gAdd, gEqD, gNeD, gIx, gIn, g1A, g2A, gInt, gLen, gTuple, gSum, gBest, dSl, dNoPart, dPart, dgName, dgTup, dgCons, dgNil, dgSub, gSetI, dIndexT, dChain, startD, List.map_cons, List.map_nil, List.length_cons, List.length_nil, List.replicate, List.append, List.cons_append, List.nil_append, List.getElem?_cons_zero, List.getElem?_cons_succ, List.set_cons_zero, List.set_cons_succ, Option.some.injEq, Dv.d.injEq, Dv.r.injEq, PyData.tuple.injEq, PyData.list.injEq, PyData.str.injEq, PyData.int.injEq, exists_eq_left', Option.map_some, Nat.zero_add, Nat.reduceAdd, Nat.reduceSub, true_and, and_true, exists_and_left, at0, at1, at2, at3, at4, eqv_int, shaped_int, eqv_pr, shaped_pr, bes, intsD, in4, flat4, flatI, Bool.not_eq_true', decide_eq_false_iff_not, not_true_eq_false, if_true, if_false, Bool.not_true, Bool.not_false, Bool.false_eq_true, Bool.true_eq_false, Bool.or_eq_false_iff,  shaped_tn, shaped_hd, shaped_r, decide_eq_true_eq, sizeLine_eq, Nat.reduceLeDiff, Int.reduceToNat, Int.reducePow, Int.reduceMul, Int.reduceAdd, Int.reduceSub, Int.reduceNeg, Int.reduceMod, setM_same, MO.lst.injEq, setM_setM, ix0, ix1, ix2, ix3, ix4, dPick, keyOf, dSlT, dTupRng, gAppend, dAppend, g2B, dM1, eqv_tn, eqv_tnl, shaped_l, dSlM, g1N, dIsi, tyD, gListD, gListM, gTupleM, sPar, dgPair, isT_it, isT_is, isT_ib, isT_ii, isT_tt, gInS, sTry, xCall, xSeq, xIf, xThen, xRaise, dIsE, dNum, dRep1, gAddT, isT_ss, isT_st, isT_ts]
        refine ⟨_, _, rfl, _, _, _, rfl, _, rfl, ?_⟩
        rw [zip_self]
        exact hR
      · intro d hd m' R S hR
        simp only [List.mem_map] at hd
        obtain ⟨i, hi, rfl⟩ := hd
        simp only at hR
        simp only [wipeD, dYes, if_true]
        try simp only [sSeq, sAsg, sRet, sIf, sDrop, sNext, sNever, dOp, dUn, dVar, dC, dTest, isBool, dAnd, dOr, dNot, dAndV, dOrV, dNotV, dIf, dCons, dNil, dTup, dLst, dLstM, datas, dCall, dCB, gI0, gI, gB0, g1I, gAdd, gEqD, gNeD, gIx, gIn, g1A, g2A, gInt, gLen, gTuple, gSum, gBest, dSl, dNoPart, dPart, dgName, dgTup, dgCons, dgNil, dgSub, gSetI, dIndexT, dChain, startD, List.map_cons, List.map_nil, List.length_cons, List.length_nil, List.replicate, List.append, List.cons_append, List.nil_append, List.getElem?_cons_zero, List.getElem?_cons_succ, List.set_cons_zero, List.set_cons_succ, Option.some.injEq, Dv.d.injEq, Dv.r.injEq, PyData.tuple.injEq, PyData.list.injEq, PyData.str.injEq, PyData.int.injEq, exists_eq_left', Option.map_some, Nat.zero_add, Nat.reduceAdd, Nat.reduceSub, true_and, and_true, exists_and_left, at0, at1, at2, at3, at4, eqv_int, shaped_int, eqv_pr, shaped_pr, bes, intsD, in4, flat4, flatI, Bool.not_eq_true', decide_eq_false_iff_not, not_true_eq_false, if_true, if_false, Bool.not_true, Bool.not_false, Bool.false_eq_true, Bool.true_eq_false, Bool.or_eq_false_iff,  shaped_tn, shaped_hd, shaped_r, decide_eq_true_eq, sizeLine_eq, Nat.reduceLeDiff, Int.reduceToNat, Int.reducePow, Int.reduceMul, Int.reduceAdd, Int.reduceSub, Int.reduceNeg, Int.reduceMod, setM_same, MO.lst.injEq, setM_setM, ix0, ix1, ix2, ix3, ix4, dPick, keyOf, dSlT, dTupRng, gAppend, dAppend, g2B, dM1, eqv_tn, eqv_tnl, shaped_l, dSlM, g1N, dIsi, tyD, gListD, gListM, gTupleM, sPar, dgPair, isT_it, isT_is, isT_ib, isT_ii, isT_tt, gInS, sTry, xCall, xSeq, xIf, xThen, xRaise, dIsE, dNum, dRep1, gAddT, isT_ss, isT_st, isT_ts]
        refine ⟨i, rfl, hf i hi, ?_⟩
        try simp only [sSeq, sAsg, sRet, sIf, sDrop, sNext, sNever, dOp, dUn, dVar, dC, dTest, isBool, dAnd, dOr, dNot, dAndV, dOrV, dNotV, dIf, dCons, dNil, dTup, dLst, dLstM, datas, dCall, dCB, gI0, gI, gB0, g1I, gAdd, gEqD, gNeD, gIx, gIn, g1A, g2A, gInt, gLen, gTuple, gSum, gBest, dSl, dNoPart, dPart, dgName, dgTup, dgCons, dgNil, dgSub, gSetI, dIndexT, dChain, startD, List.map_cons, List.map_nil, List.length_cons, List.length_nil, List.replicate, List.append, List.cons_append, List.nil_append, List.getElem?_cons_zero, List.getElem?_cons_succ, List.set_cons_zero, List.set_cons_succ, Option.some.injEq, Dv.d.injEq, Dv.r.injEq, PyData.tuple.injEq, PyData.list.injEq, PyData.str.injEq, PyData.int.injEq, exists_eq_left', Option.map_some, Nat.zero_add, Nat.reduceAdd, Nat.reduceSub, true_and, and_true, exists_and_left, at0, at1, at2, at3, at4, eqv_int, shaped_int, eqv_pr, shaped_pr, bes, intsD, in4, flat4, flatI, Bool.not_eq_true', decide_eq_false_iff_not, not_true_eq_false, if_true, if_false, Bool.not_true, Bool.not_false, Bool.false_eq_true, Bool.true_eq_false, Bool.or_eq_false_iff,  shaped_tn, shaped_hd, shaped_r, decide_eq_true_eq, sizeLine_eq, Nat.reduceLeDiff, Int.reduceToNat, Int.reducePow, Int.reduceMul, Int.reduceAdd, Int.reduceSub, Int.reduceNeg, Int.reduceMod, setM_same, MO.lst.injEq, setM_setM, ix0, ix1, ix2, ix3, ix4, dPick, keyOf, dSlT, dTupRng, gAppend, dAppend, g2B, dM1, eqv_tn, eqv_tnl, shaped_l, dSlM, g1N, dIsi, tyD, gListD, gListM, gTupleM, sPar, dgPair, isT_it, isT_is, isT_ib, isT_ii, isT_tt, gInS, sTry, xCall, xSeq, xIf, xThen, xRaise, dIsE, dNum, dRep1, gAddT, isT_ss, isT_st, isT_ts]
        exact hR
      · rw [show List.filterMap (fun _ : Dv => (none : Option PyData)) (xs.map fun i => .d (.tuple [i, i])) = [] from by simp]
        try simp only [sSeq, sAsg, sRet, sIf, sDrop, sNext, sNever, dOp, dUn, dVar, dC, dTest, isBool, dAnd, dOr, dNot, dAndV, dOrV, dNotV, dIf, dCons, dNil, dTup, dLst, dLstM, datas, dCall, dCB, gI0, gI, gB0, g1I, gAdd, gEqD, gNeD, gIx, gIn, g1A, g2A, gInt, gLen, gTuple, gSum, gBest, dSl, dNoPart, dPart, dgName, dgTup, dgCons, dgNil, dgSub, gSetI, dIndexT, dChain, startD, List.map_cons, List.map_nil, List.length_cons, List.length_nil, List.replicate, List.append, List.cons_append, List.nil_append, List.getElem?_cons_zero, List.getElem?_cons_succ, List.set_cons_zero, List.set_cons_succ, Option.some.injEq, Dv.d.injEq, Dv.r.injEq, PyData.tuple.injEq, PyData.list.injEq, PyData.str.injEq, PyData.int.injEq, exists_eq_left', Option.map_some, Nat.zero_add, Nat.reduceAdd, Nat.reduceSub, true_and, and_true, exists_and_left, at0, at1, at2, at3, at4, eqv_int, shaped_int, eqv_pr, shaped_pr, bes, intsD, in4, flat4, flatI, Bool.not_eq_true', decide_eq_false_iff_not, not_true_eq_false, if_true, if_false, Bool.not_true, Bool.not_false, Bool.false_eq_true, Bool.true_eq_false, Bool.or_eq_false_iff,  shaped_tn, shaped_hd, shaped_r, decide_eq_true_eq, sizeLine_eq, Nat.reduceLeDiff, Int.reduceToNat, Int.reducePow, Int.reduceMul, Int.reduceAdd, Int.reduceSub, Int.reduceNeg, Int.reduceMod, setM_same, MO.lst.injEq, setM_setM, ix0, ix1, ix2, ix3, ix4, dPick, keyOf, dSlT, dTupRng, gAppend, dAppend, g2B, dM1, eqv_tn, eqv_tnl, shaped_l, dSlM, g1N, dIsi, tyD, gListD, gListM, gTupleM, sPar, dgPair, isT_it, isT_is, isT_ib, isT_ii, isT_tt, gInS, sTry, xCall, xSeq, xIf, xThen, xRaise, dIsE, dNum, dRep1, gAddT, isT_ss, isT_st, isT_ts]
        exact ⟨by decide +kernel, by decide +kernel, by rw [show PyData.eqv (.list []) (.list []) = true from by decide +kernel]; exact z⟩
theorem sc__law_wide : FnScope ["deck", "most"] ["deck", "most"] (defScope s__law_wide) := ⟨rfl, rfl, rfl, by decide +kernel, rfl, by decide +kernel, by decide +kernel⟩
theorem ok__law_wide (T : Tx K mg) : FnOk P w K mg base CX0 2 T.a__law_wide T.fd__law_wide ["deck", "most"] (spD K F__law_wide) := by
  refine Fun.okD T.F__law_wide sc__law_wide mo__law_wide (fun ds m Q h => ?_) (fun cdv A outer s H E hr => ?_)
  · unfold F__law_wide at h; obtain ⟨a, many, o, c, rfl, l, hm, hd, hc, z⟩ := h; rfl
  · refine ⟨_, (dss_one (ds_ret (de_mod (de_add (de_add (de_mul (de_call mo__law_draw ((ok__law_draw T).mono (by decide : 1 ≤ 1)) hr (by rfl) T.m__law_draw T.F__law_draw.kp T.n__law_draw (da_cons (dv 0) (da_cons (de_pow de_int de_int) da_nil))) (de_pow de_int de_int)) (de_mul (de_call mo__law_draw ((ok__law_draw T).mono (by decide : 1 ≤ 1)) hr (by rfl) T.m__law_draw T.F__law_draw.kp T.n__law_draw (da_cons (dv 0) (da_cons (de_pow de_int de_int) da_nil))) (de_pow de_int de_int))) (de_call mo__law_draw ((ok__law_draw T).mono (by decide : 1 ≤ 1)) hr (by rfl) T.m__law_draw T.F__law_draw.kp T.n__law_draw (da_cons (dv 0) (da_cons (de_pow de_int de_int) da_nil)))) (dv 1)))), fun ds m Q h => ?_⟩
    obtain ⟨a, many, o, c, rfl, l, hm, hd, hc, z⟩ := h
    try simp only [sSeq, sAsg, sRet, sIf, sDrop, sNext, sNever, dOp, dUn, dVar, dC, dTest, isBool, dAnd, dOr, dNot, dAndV, dOrV, dNotV, dIf, dCons, dNil, dTup, dLst, dLstM, datas, dCall, dCB, gI0, gI, gB0, g1I, gAdd, gEqD, gNeD, gIx, gIn, g1A, g2A, gInt, gLen, gTuple, gSum, gBest, dSl, dNoPart, dPart, dgName, dgTup, dgCons, dgNil, dgSub, gSetI, dIndexT, dChain, startD, List.map_cons, List.map_nil, List.length_cons, List.length_nil, List.replicate, List.append, List.cons_append, List.nil_append, List.getElem?_cons_zero, List.getElem?_cons_succ, List.set_cons_zero, List.set_cons_succ, Option.some.injEq, Dv.d.injEq, Dv.r.injEq, PyData.tuple.injEq, PyData.list.injEq, PyData.str.injEq, PyData.int.injEq, exists_eq_left', Option.map_some, Nat.zero_add, Nat.reduceAdd, Nat.reduceSub, true_and, and_true, exists_and_left, at0, at1, at2, at3, at4, eqv_int, shaped_int, eqv_pr, shaped_pr, bes, intsD, in4, flat4, flatI, Bool.not_eq_true', decide_eq_false_iff_not, not_true_eq_false, if_true, if_false, Bool.not_true, Bool.not_false, Bool.false_eq_true, Bool.true_eq_false, Bool.or_eq_false_iff,  shaped_tn, shaped_hd, shaped_r, decide_eq_true_eq, sizeLine_eq, Nat.reduceLeDiff, Int.reduceToNat, Int.reducePow, Int.reduceMul, Int.reduceAdd, Int.reduceSub, Int.reduceNeg, Int.reduceMod, setM_same, MO.lst.injEq, setM_setM, ix0, ix1, ix2, ix3, ix4, dPick, keyOf, dSlT, dTupRng, gAppend, dAppend, g2B, dM1, eqv_tn, eqv_tnl, shaped_l]
    refine ⟨by unfold CPow; decide, ?_⟩
    refine ⟨a, _, _, _, rfl, by first | decide | omega, hm, hd, by omega, fun v1 o1 l1 u1 d1 => ?_⟩
    try simp only [sSeq, sAsg, sRet, sIf, sDrop, sNext, sNever, dOp, dUn, dVar, dC, dTest, isBool, dAnd, dOr, dNot, dAndV, dOrV, dNotV, dIf, dCons, dNil, dTup, dLst, dLstM, datas, dCall, dCB, gI0, gI, gB0, g1I, gAdd, gEqD, gNeD, gIx, gIn, g1A, g2A, gInt, gLen, gTuple, gSum, gBest, dSl, dNoPart, dPart, dgName, dgTup, dgCons, dgNil, dgSub, gSetI, dIndexT, dChain, startD, List.map_cons, List.map_nil, List.length_cons, List.length_nil, List.replicate, List.append, List.cons_append, List.nil_append, List.getElem?_cons_zero, List.getElem?_cons_succ, List.set_cons_zero, List.set_cons_succ, Option.some.injEq, Dv.d.injEq, Dv.r.injEq, PyData.tuple.injEq, PyData.list.injEq, PyData.str.injEq, PyData.int.injEq, exists_eq_left', Option.map_some, Nat.zero_add, Nat.reduceAdd, Nat.reduceSub, true_and, and_true, exists_and_left, at0, at1, at2, at3, at4, eqv_int, shaped_int, eqv_pr, shaped_pr, bes, intsD, in4, flat4, flatI, Bool.not_eq_true', decide_eq_false_iff_not, not_true_eq_false, if_true, if_false, Bool.not_true, Bool.not_false, Bool.false_eq_true, Bool.true_eq_false, Bool.or_eq_false_iff,  shaped_tn, shaped_hd, shaped_r, decide_eq_true_eq, sizeLine_eq, Nat.reduceLeDiff, Int.reduceToNat, Int.reducePow, Int.reduceMul, Int.reduceAdd, Int.reduceSub, Int.reduceNeg, Int.reduceMod, setM_same, MO.lst.injEq, setM_setM, ix0, ix1, ix2, ix3, ix4, dPick, keyOf, dSlT, dTupRng, gAppend, dAppend, g2B, dM1, eqv_tn, eqv_tnl, shaped_l]
    refine ⟨by unfold CPow; decide, by unfold CMul; omega, by unfold CPow; decide, ?_⟩
    refine ⟨a, _, _, _, rfl, by first | decide | omega, setM_same, d1, by omega, fun v2 o2 l2 u2 d2 => ?_⟩
    try simp only [sSeq, sAsg, sRet, sIf, sDrop, sNext, sNever, dOp, dUn, dVar, dC, dTest, isBool, dAnd, dOr, dNot, dAndV, dOrV, dNotV, dIf, dCons, dNil, dTup, dLst, dLstM, datas, dCall, dCB, gI0, gI, gB0, g1I, gAdd, gEqD, gNeD, gIx, gIn, g1A, g2A, gInt, gLen, gTuple, gSum, gBest, dSl, dNoPart, dPart, dgName, dgTup, dgCons, dgNil, dgSub, gSetI, dIndexT, dChain, startD, List.map_cons, List.map_nil, List.length_cons, List.length_nil, List.replicate, List.append, List.cons_append, List.nil_append, List.getElem?_cons_zero, List.getElem?_cons_succ, List.set_cons_zero, List.set_cons_succ, Option.some.injEq, Dv.d.injEq, Dv.r.injEq, PyData.tuple.injEq, PyData.list.injEq, PyData.str.injEq, PyData.int.injEq, exists_eq_left', Option.map_some, Nat.zero_add, Nat.reduceAdd, Nat.reduceSub, true_and, and_true, exists_and_left, at0, at1, at2, at3, at4, eqv_int, shaped_int, eqv_pr, shaped_pr, bes, intsD, in4, flat4, flatI, Bool.not_eq_true', decide_eq_false_iff_not, not_true_eq_false, if_true, if_false, Bool.not_true, Bool.not_false, Bool.false_eq_true, Bool.true_eq_false, Bool.or_eq_false_iff,  shaped_tn, shaped_hd, shaped_r, decide_eq_true_eq, sizeLine_eq, Nat.reduceLeDiff, Int.reduceToNat, Int.reducePow, Int.reduceMul, Int.reduceAdd, Int.reduceSub, Int.reduceNeg, Int.reduceMod, setM_same, MO.lst.injEq, setM_setM, ix0, ix1, ix2, ix3, ix4, dPick, keyOf, dSlT, dTupRng, gAppend, dAppend, g2B, dM1, eqv_tn, eqv_tnl, shaped_l]
    refine ⟨by unfold CPow; decide, by unfold CMul; omega, by unfold CPow; decide, ?_⟩
    refine ⟨a, _, _, _, rfl, by first | decide | omega, setM_same, d2, by omega, fun v3 o3 l3 u3 d3 => ?_⟩
    try simp only [sSeq, sAsg, sRet, sIf, sDrop, sNext, sNever, dOp, dUn, dVar, dC, dTest, isBool, dAnd, dOr, dNot, dAndV, dOrV, dNotV, dIf, dCons, dNil, dTup, dLst, dLstM, datas, dCall, dCB, gI0, gI, gB0, g1I, gAdd, gEqD, gNeD, gIx, gIn, g1A, g2A, gInt, gLen, gTuple, gSum, gBest, dSl, dNoPart, dPart, dgName, dgTup, dgCons, dgNil, dgSub, gSetI, dIndexT, dChain, startD, List.map_cons, List.map_nil, List.length_cons, List.length_nil, List.replicate, List.append, List.cons_append, List.nil_append, List.getElem?_cons_zero, List.getElem?_cons_succ, List.set_cons_zero, List.set_cons_succ, Option.some.injEq, Dv.d.injEq, Dv.r.injEq, PyData.tuple.injEq, PyData.list.injEq, PyData.str.injEq, PyData.int.injEq, exists_eq_left', Option.map_some, Nat.zero_add, Nat.reduceAdd, Nat.reduceSub, true_and, and_true, exists_and_left, at0, at1, at2, at3, at4, eqv_int, shaped_int, eqv_pr, shaped_pr, bes, intsD, in4, flat4, flatI, Bool.not_eq_true', decide_eq_false_iff_not, not_true_eq_false, if_true, if_false, Bool.not_true, Bool.not_false, Bool.false_eq_true, Bool.true_eq_false, Bool.or_eq_false_iff,  shaped_tn, shaped_hd, shaped_r, decide_eq_true_eq, sizeLine_eq, Nat.reduceLeDiff, Int.reduceToNat, Int.reducePow, Int.reduceMul, Int.reduceAdd, Int.reduceSub, Int.reduceNeg, Int.reduceMod, setM_same, MO.lst.injEq, setM_setM, ix0, ix1, ix2, ix3, ix4, dPick, keyOf, dSlT, dTupRng, gAppend, dAppend, g2B, dM1, eqv_tn, eqv_tnl, shaped_l]
    exact ⟨l.1, z _ _ (Int.emod_nonneg _ (by omega)) (Int.emod_lt_of_pos _ l.1) (d3.mono (by omega))⟩
theorem sc__law_spiral : FnScope ["deck", "far", "start"] ["deck"] (defScope s__law_spiral) := ⟨rfl, rfl, rfl, by decide +kernel, rfl, by decide +kernel, by decide +kernel⟩
theorem ok__law_spiral (T : Tx K mg) : FnOk P w K mg base CX0 3 T.a__law_spiral T.fd__law_spiral ["deck"] (spD K F__law_spiral) := by
  refine Fun.okD T.F__law_spiral sc__law_spiral mo__law_spiral (fun ds m Q h => ?_) (fun cdv A outer s H E hr => ?_)
  · unfold F__law_spiral at h; obtain ⟨a, o, c, rfl, hm, hd, hc, z⟩ := h; rfl
  · refine ⟨_, (dss_cons (ds_set (i := 1) sc__law_spiral.nd rfl (by first | exact Or.inl rfl | exact Or.inr rfl) (de_sub (de_call mo__law_wide ((ok__law_wide T).mono (by decide : 2 ≤ 2)) hr (by rfl) T.m__law_wide T.F__law_wide.kp T.n__law_wide (da_cons (dv 0) (da_cons (de_add (de_mul de_int (de_pow de_int de_int)) de_int) da_nil))) (de_pow de_int de_int)))
      (dss_cons (ds_set (i := 2) sc__law_spiral.nd rfl (by first | exact Or.inl rfl | exact Or.inr rfl) (de_ix (de_lst (da_cons de_int (da_cons de_int (da_cons (de_sub (de_call mo__law_draw ((ok__law_draw T).mono (by decide : 1 ≤ 2)) hr (by rfl) T.m__law_draw T.F__law_draw.kp T.n__law_draw (da_cons (dv 0) (da_cons de_int da_nil))) de_int) (da_cons (dv 1) da_nil))))) (de_call mo__law_draw ((ok__law_draw T).mono (by decide : 1 ≤ 2)) hr (by rfl) T.m__law_draw T.F__law_draw.kp T.n__law_draw (da_cons (dv 0) (da_cons de_int da_nil)))))
      (dss_one (ds_ret (de_tup (da_cons (dv 2) (da_cons (de_ix de_str (de_call mo__law_draw ((ok__law_draw T).mono (by decide : 1 ≤ 2)) hr (by rfl) T.m__law_draw T.F__law_draw.kp T.n__law_draw (da_cons (dv 0) (da_cons de_int da_nil)))) (da_cons (de_ix de_str (de_call mo__law_draw ((ok__law_draw T).mono (by decide : 1 ≤ 2)) hr (by rfl) T.m__law_draw T.F__law_draw.kp T.n__law_draw (da_cons (dv 0) (da_cons de_int da_nil)))) da_nil)))))))), fun ds m Q h => ?_⟩
    obtain ⟨a, o, c, rfl, hm, hd, hc, z⟩ := h
    try simp only [sSeq, sAsg, sRet, sIf, sDrop, sNext, sNever, dOp, dUn, dVar, dC, dTest, isBool, dAnd, dOr, dNot, dAndV, dOrV, dNotV, dIf, dCons, dNil, dTup, dLst, dLstM, datas, dCall, dCB, gI0, gI, gB0, g1I, gAdd, gEqD, gNeD, gIx, gIn, g1A, g2A, gInt, gLen, gTuple, gSum, gBest, dSl, dNoPart, dPart, dgName, dgTup, dgCons, dgNil, dgSub, gSetI, dIndexT, dChain, startD, List.map_cons, List.map_nil, List.length_cons, List.length_nil, List.replicate, List.append, List.cons_append, List.nil_append, List.getElem?_cons_zero, List.getElem?_cons_succ, List.set_cons_zero, List.set_cons_succ, Option.some.injEq, Dv.d.injEq, Dv.r.injEq, PyData.tuple.injEq, PyData.list.injEq, PyData.str.injEq, PyData.int.injEq, exists_eq_left', Option.map_some, Nat.zero_add, Nat.reduceAdd, Nat.reduceSub, true_and, and_true, exists_and_left, at0, at1, at2, at3, at4, eqv_int, shaped_int, eqv_pr, shaped_pr, bes, intsD, in4, flat4, flatI, Bool.not_eq_true', decide_eq_false_iff_not, not_true_eq_false, if_true, if_false, Bool.not_true, Bool.not_false, Bool.false_eq_true, Bool.true_eq_false, Bool.or_eq_false_iff,  shaped_tn, shaped_hd, shaped_r, decide_eq_true_eq, sizeLine_eq, Nat.reduceLeDiff, Int.reduceToNat, Int.reducePow, Int.reduceMul, Int.reduceAdd, Int.reduceSub, Int.reduceNeg, Int.reduceMod, setM_same, MO.lst.injEq, setM_setM, ix0, ix1, ix2, ix3, ix4, dPick, keyOf, dSlT, dTupRng, gAppend, dAppend, g2B, dM1, eqv_tn, eqv_tnl, shaped_l]
    refine ⟨by unfold CPow; decide, by unfold CMul; decide, ?_⟩
    refine ⟨a, _, _, _, rfl, by first | decide | omega, hm, hd, by omega, fun v1 o1 l1 u1 d1 => ?_⟩
    try simp only [sSeq, sAsg, sRet, sIf, sDrop, sNext, sNever, dOp, dUn, dVar, dC, dTest, isBool, dAnd, dOr, dNot, dAndV, dOrV, dNotV, dIf, dCons, dNil, dTup, dLst, dLstM, datas, dCall, dCB, gI0, gI, gB0, g1I, gAdd, gEqD, gNeD, gIx, gIn, g1A, g2A, gInt, gLen, gTuple, gSum, gBest, dSl, dNoPart, dPart, dgName, dgTup, dgCons, dgNil, dgSub, gSetI, dIndexT, dChain, startD, List.map_cons, List.map_nil, List.length_cons, List.length_nil, List.replicate, List.append, List.cons_append, List.nil_append, List.getElem?_cons_zero, List.getElem?_cons_succ, List.set_cons_zero, List.set_cons_succ, Option.some.injEq, Dv.d.injEq, Dv.r.injEq, PyData.tuple.injEq, PyData.list.injEq, PyData.str.injEq, PyData.int.injEq, exists_eq_left', Option.map_some, Nat.zero_add, Nat.reduceAdd, Nat.reduceSub, true_and, and_true, exists_and_left, at0, at1, at2, at3, at4, eqv_int, shaped_int, eqv_pr, shaped_pr, bes, intsD, in4, flat4, flatI, Bool.not_eq_true', decide_eq_false_iff_not, not_true_eq_false, if_true, if_false, Bool.not_true, Bool.not_false, Bool.false_eq_true, Bool.true_eq_false, Bool.or_eq_false_iff,  shaped_tn, shaped_hd, shaped_r, decide_eq_true_eq, sizeLine_eq, Nat.reduceLeDiff, Int.reduceToNat, Int.reducePow, Int.reduceMul, Int.reduceAdd, Int.reduceSub, Int.reduceNeg, Int.reduceMod, setM_same, MO.lst.injEq, setM_setM, ix0, ix1, ix2, ix3, ix4, dPick, keyOf, dSlT, dTupRng, gAppend, dAppend, g2B, dM1, eqv_tn, eqv_tnl, shaped_l]
    refine ⟨by unfold CPow; decide, ?_⟩
    refine ⟨a, _, _, _, rfl, by first | decide | omega, setM_same, d1, by omega, fun v2 o2 l2 u2 d2 => ?_⟩
    try simp only [sSeq, sAsg, sRet, sIf, sDrop, sNext, sNever, dOp, dUn, dVar, dC, dTest, isBool, dAnd, dOr, dNot, dAndV, dOrV, dNotV, dIf, dCons, dNil, dTup, dLst, dLstM, datas, dCall, dCB, gI0, gI, gB0, g1I, gAdd, gEqD, gNeD, gIx, gIn, g1A, g2A, gInt, gLen, gTuple, gSum, gBest, dSl, dNoPart, dPart, dgName, dgTup, dgCons, dgNil, dgSub, gSetI, dIndexT, dChain, startD, List.map_cons, List.map_nil, List.length_cons, List.length_nil, List.replicate, List.append, List.cons_append, List.nil_append, List.getElem?_cons_zero, List.getElem?_cons_succ, List.set_cons_zero, List.set_cons_succ, Option.some.injEq, Dv.d.injEq, Dv.r.injEq, PyData.tuple.injEq, PyData.list.injEq, PyData.str.injEq, PyData.int.injEq, exists_eq_left', Option.map_some, Nat.zero_add, Nat.reduceAdd, Nat.reduceSub, true_and, and_true, exists_and_left, at0, at1, at2, at3, at4, eqv_int, shaped_int, eqv_pr, shaped_pr, bes, intsD, in4, flat4, flatI, Bool.not_eq_true', decide_eq_false_iff_not, not_true_eq_false, if_true, if_false, Bool.not_true, Bool.not_false, Bool.false_eq_true, Bool.true_eq_false, Bool.or_eq_false_iff,  shaped_tn, shaped_hd, shaped_r, decide_eq_true_eq, sizeLine_eq, Nat.reduceLeDiff, Int.reduceToNat, Int.reducePow, Int.reduceMul, Int.reduceAdd, Int.reduceSub, Int.reduceNeg, Int.reduceMod, setM_same, MO.lst.injEq, setM_setM, ix0, ix1, ix2, ix3, ix4, dPick, keyOf, dSlT, dTupRng, gAppend, dAppend, g2B, dM1, eqv_tn, eqv_tnl, shaped_l]
    refine ⟨a, _, _, _, rfl, by first | decide | omega, setM_same, d2, by omega, fun v3 o3 l3 u3 d3 => ?_⟩
    try simp only [sSeq, sAsg, sRet, sIf, sDrop, sNext, sNever, dOp, dUn, dVar, dC, dTest, isBool, dAnd, dOr, dNot, dAndV, dOrV, dNotV, dIf, dCons, dNil, dTup, dLst, dLstM, datas, dCall, dCB, gI0, gI, gB0, g1I, gAdd, gEqD, gNeD, gIx, gIn, g1A, g2A, gInt, gLen, gTuple, gSum, gBest, dSl, dNoPart, dPart, dgName, dgTup, dgCons, dgNil, dgSub, gSetI, dIndexT, dChain, startD, List.map_cons, List.map_nil, List.length_cons, List.length_nil, List.replicate, List.append, List.cons_append, List.nil_append, List.getElem?_cons_zero, List.getElem?_cons_succ, List.set_cons_zero, List.set_cons_succ, Option.some.injEq, Dv.d.injEq, Dv.r.injEq, PyData.tuple.injEq, PyData.list.injEq, PyData.str.injEq, PyData.int.injEq, exists_eq_left', Option.map_some, Nat.zero_add, Nat.reduceAdd, Nat.reduceSub, true_and, and_true, exists_and_left, at0, at1, at2, at3, at4, eqv_int, shaped_int, eqv_pr, shaped_pr, bes, intsD, in4, flat4, flatI, Bool.not_eq_true', decide_eq_false_iff_not, not_true_eq_false, if_true, if_false, Bool.not_true, Bool.not_false, Bool.false_eq_true, Bool.true_eq_false, Bool.or_eq_false_iff,  shaped_tn, shaped_hd, shaped_r, decide_eq_true_eq, sizeLine_eq, Nat.reduceLeDiff, Int.reduceToNat, Int.reducePow, Int.reduceMul, Int.reduceAdd, Int.reduceSub, Int.reduceNeg, Int.reduceMod, setM_same, MO.lst.injEq, setM_setM, ix0, ix1, ix2, ix3, ix4, dPick, keyOf, dSlT, dTupRng, gAppend, dAppend, g2B, dM1, eqv_tn, eqv_tnl, shaped_l]
    obtain ⟨s1, m1, e1⟩ := at_mem (ns := [1, 0, v2 - 20, v1 - 1000000000000000000]) l3 u3
    simp only [List.map_cons, List.map_nil] at e1
    rw [e1]
    try simp only [sSeq, sAsg, sRet, sIf, sDrop, sNext, sNever, dOp, dUn, dVar, dC, dTest, isBool, dAnd, dOr, dNot, dAndV, dOrV, dNotV, dIf, dCons, dNil, dTup, dLst, dLstM, datas, dCall, dCB, gI0, gI, gB0, g1I, gAdd, gEqD, gNeD, gIx, gIn, g1A, g2A, gInt, gLen, gTuple, gSum, gBest, dSl, dNoPart, dPart, dgName, dgTup, dgCons, dgNil, dgSub, gSetI, dIndexT, dChain, startD, List.map_cons, List.map_nil, List.length_cons, List.length_nil, List.replicate, List.append, List.cons_append, List.nil_append, List.getElem?_cons_zero, List.getElem?_cons_succ, List.set_cons_zero, List.set_cons_succ, Option.some.injEq, Dv.d.injEq, Dv.r.injEq, PyData.tuple.injEq, PyData.list.injEq, PyData.str.injEq, PyData.int.injEq, exists_eq_left', Option.map_some, Nat.zero_add, Nat.reduceAdd, Nat.reduceSub, true_and, and_true, exists_and_left, at0, at1, at2, at3, at4, eqv_int, shaped_int, eqv_pr, shaped_pr, bes, intsD, in4, flat4, flatI, Bool.not_eq_true', decide_eq_false_iff_not, not_true_eq_false, if_true, if_false, Bool.not_true, Bool.not_false, Bool.false_eq_true, Bool.true_eq_false, Bool.or_eq_false_iff,  shaped_tn, shaped_hd, shaped_r, decide_eq_true_eq, sizeLine_eq, Nat.reduceLeDiff, Int.reduceToNat, Int.reducePow, Int.reduceMul, Int.reduceAdd, Int.reduceSub, Int.reduceNeg, Int.reduceMod, setM_same, MO.lst.injEq, setM_setM, ix0, ix1, ix2, ix3, ix4, dPick, keyOf, dSlT, dTupRng, gAppend, dAppend, g2B, dM1, eqv_tn, eqv_tnl, shaped_l]
    refine ⟨a, _, _, _, rfl, by first | decide | omega, setM_same, d3, by omega, fun v4 o4 l4 u4 d4 => ?_⟩
    try simp only [sSeq, sAsg, sRet, sIf, sDrop, sNext, sNever, dOp, dUn, dVar, dC, dTest, isBool, dAnd, dOr, dNot, dAndV, dOrV, dNotV, dIf, dCons, dNil, dTup, dLst, dLstM, datas, dCall, dCB, gI0, gI, gB0, g1I, gAdd, gEqD, gNeD, gIx, gIn, g1A, g2A, gInt, gLen, gTuple, gSum, gBest, dSl, dNoPart, dPart, dgName, dgTup, dgCons, dgNil, dgSub, gSetI, dIndexT, dChain, startD, List.map_cons, List.map_nil, List.length_cons, List.length_nil, List.replicate, List.append, List.cons_append, List.nil_append, List.getElem?_cons_zero, List.getElem?_cons_succ, List.set_cons_zero, List.set_cons_succ, Option.some.injEq, Dv.d.injEq, Dv.r.injEq, PyData.tuple.injEq, PyData.list.injEq, PyData.str.injEq, PyData.int.injEq, exists_eq_left', Option.map_some, Nat.zero_add, Nat.reduceAdd, Nat.reduceSub, true_and, and_true, exists_and_left, at0, at1, at2, at3, at4, eqv_int, shaped_int, eqv_pr, shaped_pr, bes, intsD, in4, flat4, flatI, Bool.not_eq_true', decide_eq_false_iff_not, not_true_eq_false, if_true, if_false, Bool.not_true, Bool.not_false, Bool.false_eq_true, Bool.true_eq_false, Bool.or_eq_false_iff,  shaped_tn, shaped_hd, shaped_r, decide_eq_true_eq, sizeLine_eq, Nat.reduceLeDiff, Int.reduceToNat, Int.reducePow, Int.reduceMul, Int.reduceAdd, Int.reduceSub, Int.reduceNeg, Int.reduceMod, setM_same, MO.lst.injEq, setM_setM, ix0, ix1, ix2, ix3, ix4, dPick, keyOf, dSlT, dTupRng, gAppend, dAppend, g2B, dM1, eqv_tn, eqv_tnl, shaped_l]
    obtain ⟨c5, e5, h5⟩ := hd_at l4 u4
    rw [e5]
    refine ⟨len_enws, c5, rfl, ?_⟩
    rw [h5]
    try simp only [sSeq, sAsg, sRet, sIf, sDrop, sNext, sNever, dOp, dUn, dVar, dC, dTest, isBool, dAnd, dOr, dNot, dAndV, dOrV, dNotV, dIf, dCons, dNil, dTup, dLst, dLstM, datas, dCall, dCB, gI0, gI, gB0, g1I, gAdd, gEqD, gNeD, gIx, gIn, g1A, g2A, gInt, gLen, gTuple, gSum, gBest, dSl, dNoPart, dPart, dgName, dgTup, dgCons, dgNil, dgSub, gSetI, dIndexT, dChain, startD, List.map_cons, List.map_nil, List.length_cons, List.length_nil, List.replicate, List.append, List.cons_append, List.nil_append, List.getElem?_cons_zero, List.getElem?_cons_succ, List.set_cons_zero, List.set_cons_succ, Option.some.injEq, Dv.d.injEq, Dv.r.injEq, PyData.tuple.injEq, PyData.list.injEq, PyData.str.injEq, PyData.int.injEq, exists_eq_left', Option.map_some, Nat.zero_add, Nat.reduceAdd, Nat.reduceSub, true_and, and_true, exists_and_left, at0, at1, at2, at3, at4, eqv_int, shaped_int, eqv_pr, shaped_pr, bes, intsD, in4, flat4, flatI, Bool.not_eq_true', decide_eq_false_iff_not, not_true_eq_false, if_true, if_false, Bool.not_true, Bool.not_false, Bool.false_eq_true, Bool.true_eq_false, Bool.or_eq_false_iff,  shaped_tn, shaped_hd, shaped_r, decide_eq_true_eq, sizeLine_eq, Nat.reduceLeDiff, Int.reduceToNat, Int.reducePow, Int.reduceMul, Int.reduceAdd, Int.reduceSub, Int.reduceNeg, Int.reduceMod, setM_same, MO.lst.injEq, setM_setM, ix0, ix1, ix2, ix3, ix4, dPick, keyOf, dSlT, dTupRng, gAppend, dAppend, g2B, dM1, eqv_tn, eqv_tnl, shaped_l]
    refine ⟨a, _, _, _, rfl, by first | decide | omega, setM_same, d4, by omega, fun v5 o5 l5 u5 d5 => ?_⟩
    try simp only [sSeq, sAsg, sRet, sIf, sDrop, sNext, sNever, dOp, dUn, dVar, dC, dTest, isBool, dAnd, dOr, dNot, dAndV, dOrV, dNotV, dIf, dCons, dNil, dTup, dLst, dLstM, datas, dCall, dCB, gI0, gI, gB0, g1I, gAdd, gEqD, gNeD, gIx, gIn, g1A, g2A, gInt, gLen, gTuple, gSum, gBest, dSl, dNoPart, dPart, dgName, dgTup, dgCons, dgNil, dgSub, gSetI, dIndexT, dChain, startD, List.map_cons, List.map_nil, List.length_cons, List.length_nil, List.replicate, List.append, List.cons_append, List.nil_append, List.getElem?_cons_zero, List.getElem?_cons_succ, List.set_cons_zero, List.set_cons_succ, Option.some.injEq, Dv.d.injEq, Dv.r.injEq, PyData.tuple.injEq, PyData.list.injEq, PyData.str.injEq, PyData.int.injEq, exists_eq_left', Option.map_some, Nat.zero_add, Nat.reduceAdd, Nat.reduceSub, true_and, and_true, exists_and_left, at0, at1, at2, at3, at4, eqv_int, shaped_int, eqv_pr, shaped_pr, bes, intsD, in4, flat4, flatI, Bool.not_eq_true', decide_eq_false_iff_not, not_true_eq_false, if_true, if_false, Bool.not_true, Bool.not_false, Bool.false_eq_true, Bool.true_eq_false, Bool.or_eq_false_iff,  shaped_tn, shaped_hd, shaped_r, decide_eq_true_eq, sizeLine_eq, Nat.reduceLeDiff, Int.reduceToNat, Int.reducePow, Int.reduceMul, Int.reduceAdd, Int.reduceSub, Int.reduceNeg, Int.reduceMod, setM_same, MO.lst.injEq, setM_setM, ix0, ix1, ix2, ix3, ix4, dPick, keyOf, dSlT, dTupRng, gAppend, dAppend, g2B, dM1, eqv_tn, eqv_tnl, shaped_l]
    obtain ⟨c6, e6, h6⟩ := tn_at l5 u5
    rw [e6]
    refine ⟨len_lr, c6, rfl, ?_⟩
    rw [h6]
    try simp only [sSeq, sAsg, sRet, sIf, sDrop, sNext, sNever, dOp, dUn, dVar, dC, dTest, isBool, dAnd, dOr, dNot, dAndV, dOrV, dNotV, dIf, dCons, dNil, dTup, dLst, dLstM, datas, dCall, dCB, gI0, gI, gB0, g1I, gAdd, gEqD, gNeD, gIx, gIn, g1A, g2A, gInt, gLen, gTuple, gSum, gBest, dSl, dNoPart, dPart, dgName, dgTup, dgCons, dgNil, dgSub, gSetI, dIndexT, dChain, startD, List.map_cons, List.map_nil, List.length_cons, List.length_nil, List.replicate, List.append, List.cons_append, List.nil_append, List.getElem?_cons_zero, List.getElem?_cons_succ, List.set_cons_zero, List.set_cons_succ, Option.some.injEq, Dv.d.injEq, Dv.r.injEq, PyData.tuple.injEq, PyData.list.injEq, PyData.str.injEq, PyData.int.injEq, exists_eq_left', Option.map_some, Nat.zero_add, Nat.reduceAdd, Nat.reduceSub, true_and, and_true, exists_and_left, at0, at1, at2, at3, at4, eqv_int, shaped_int, eqv_pr, shaped_pr, bes, intsD, in4, flat4, flatI, Bool.not_eq_true', decide_eq_false_iff_not, not_true_eq_false, if_true, if_false, Bool.not_true, Bool.not_false, Bool.false_eq_true, Bool.true_eq_false, Bool.or_eq_false_iff,  shaped_tn, shaped_hd, shaped_r, decide_eq_true_eq, sizeLine_eq, Nat.reduceLeDiff, Int.reduceToNat, Int.reducePow, Int.reduceMul, Int.reduceAdd, Int.reduceSub, Int.reduceNeg, Int.reduceMod, setM_same, MO.lst.injEq, setM_setM, ix0, ix1, ix2, ix3, ix4, dPick, keyOf, dSlT, dTupRng, gAppend, dAppend, g2B, dM1, eqv_tn, eqv_tnl, shaped_l]
    refine z s1 _ _ _ ?_ (by omega) (d5.mono (by omega))
    simp only [List.mem_cons, List.not_mem_nil, or_false] at m1
    omega
theorem sc__law_steps : FnScope ["deck", "start", "most", "root", "some"] ["deck", "start"] (defScope s__law_steps) := ⟨rfl, rfl, rfl, by decide +kernel, rfl, by decide +kernel, by decide +kernel⟩
theorem ok__law_steps (T : Tx K mg) : FnOk P w K mg base CX0 3 T.a__law_steps T.fd__law_steps ["deck", "start"] (spD K F__law_steps) := by
  refine Fun.okDS T.F__law_steps sc__law_steps mo__law_steps (fun ds m Q h => ?_) (fun cdv A outer s H E hr => ?_)
  · unfold F__law_steps at h; obtain ⟨a, o, c, s, rfl, hm, hd, hc, hs, z⟩ := h; rfl
  · refine ⟨_, (dss_cons (ds_set (i := 2) sc__law_steps.nd rfl (by first | exact Or.inl rfl | exact Or.inr rfl) (de_sub (de_pow de_int de_int) (dv 1)))
      (dss_cons (ds_set (i := 3) sc__law_steps.nd rfl (by first | exact Or.inl rfl | exact Or.inr rfl) (de_call mo__law_wide ((ok__law_wide T).mono (by decide : 2 ≤ 2)) hr (by rfl) T.m__law_wide T.F__law_wide.kp T.n__law_wide (da_cons (dv 0) (da_cons (de_ix (de_lst (da_cons de_int (da_cons (de_pow de_int de_int) (da_cons (de_mul de_int (de_pow de_int de_int)) da_nil)))) (de_call mo__law_draw ((ok__law_draw T).mono (by decide : 1 ≤ 2)) hr (by rfl) T.m__law_draw T.F__law_draw.kp T.n__law_draw (da_cons (dv 0) (da_cons de_int da_nil)))) da_nil))))
      (dss_cons (ds_set (i := 4) sc__law_steps.nd rfl (by first | exact Or.inl rfl | exact Or.inr rfl) (de_lstM (da_cons (de_call mo__law_draw ((ok__law_draw T).mono (by decide : 1 ≤ 2)) hr (by rfl) T.m__law_draw T.F__law_draw.kp T.n__law_draw (da_cons (dv 0) (da_cons de_int da_nil))) (da_cons (de_call mo__law_draw ((ok__law_draw T).mono (by decide : 1 ≤ 2)) hr (by rfl) T.m__law_draw T.F__law_draw.kp T.n__law_draw (da_cons (dv 0) (da_cons (de_pow de_int de_int) da_nil))) (da_cons (de_mul (dv 3) (dv 3)) (da_cons (de_mul (dv 3) (de_add (dv 3) de_int)) da_nil))))))
      (dss_cons (ds_expr (de_append (dv 4) (de_ix (de_lst (da_cons (dv 2) (da_cons (de_call mo__law_wide ((ok__law_wide T).mono (by decide : 2 ≤ 2)) hr (by rfl) T.m__law_wide T.F__law_wide.kp T.n__law_wide (da_cons (dv 0) (da_cons (dv 2) da_nil))) da_nil))) (de_mod (de_call mo__law_draw ((ok__law_draw T).mono (by decide : 1 ≤ 2)) hr (by rfl) T.m__law_draw T.F__law_draw.kp T.n__law_draw (da_cons (dv 0) (da_cons de_int da_nil))) de_int))))
      (dss_one (ds_ret (de_min2 rfl (by rfl) T.b_min (da_cons (dv 2) (da_cons (de_max2 rfl (by rfl) T.b_max (da_cons de_int (da_cons (de_sub (de_add (de_ix (dv 4) (de_call mo__law_draw ((ok__law_draw T).mono (by decide : 1 ≤ 2)) hr (by rfl) T.m__law_draw T.F__law_draw.kp T.n__law_draw (da_cons (dv 0) (da_cons de_int da_nil)))) (de_call mo__law_draw ((ok__law_draw T).mono (by decide : 1 ≤ 2)) hr (by rfl) T.m__law_draw T.F__law_draw.kp T.n__law_draw (da_cons (dv 0) (da_cons de_int da_nil)))) de_int) da_nil))) da_nil))))))))), fun ds m Q h => ?_⟩
    obtain ⟨a, o, c, s, rfl, hm, hd, hc, hs, z⟩ := h
    try simp only [sSeq, sAsg, sRet, sIf, sDrop, sNext, sNever, dOp, dUn, dVar, dC, dTest, isBool, dAnd, dOr, dNot, dAndV, dOrV, dNotV, dIf, dCons, dNil, dTup, dLst, dLstM, datas, dCall, dCB, gI0, gI, gB0, g1I, gAdd, gEqD, gNeD, gIx, gIn, g1A, g2A, gInt, gLen, gTuple, gSum, gBest, dSl, dNoPart, dPart, dgName, dgTup, dgCons, dgNil, dgSub, gSetI, dIndexT, dChain, startD, List.map_cons, List.map_nil, List.length_cons, List.length_nil, List.replicate, List.append, List.cons_append, List.nil_append, List.getElem?_cons_zero, List.getElem?_cons_succ, List.set_cons_zero, List.set_cons_succ, Option.some.injEq, Dv.d.injEq, Dv.r.injEq, PyData.tuple.injEq, PyData.list.injEq, PyData.str.injEq, PyData.int.injEq, exists_eq_left', Option.map_some, Nat.zero_add, Nat.reduceAdd, Nat.reduceSub, true_and, and_true, exists_and_left, at0, at1, at2, at3, at4, eqv_int, shaped_int, eqv_pr, shaped_pr, bes, intsD, in4, flat4, flatI, Bool.not_eq_true', decide_eq_false_iff_not, not_true_eq_false, if_true, if_false, Bool.not_true, Bool.not_false, Bool.false_eq_true, Bool.true_eq_false, Bool.or_eq_false_iff,  shaped_tn, shaped_hd, shaped_r, decide_eq_true_eq, sizeLine_eq, Nat.reduceLeDiff, Int.reduceToNat, Int.reducePow, Int.reduceMul, Int.reduceAdd, Int.reduceSub, Int.reduceNeg, Int.reduceMod, setM_same, MO.lst.injEq, setM_setM, ix0, ix1, ix2, ix3, ix4, dPick, keyOf, dSlT, dTupRng, gAppend, dAppend, g2B, dM1, eqv_tn, eqv_tnl, shaped_l, dSlM, g1N, dIsi, tyD, gListD, gListM, gTupleM, sPar, dgPair, isT_it, isT_is, isT_ib, isT_ii, isT_tt, gInS, sTry, xCall, xSeq, xIf, xThen, xRaise, dIsE, dNum, dRep1, gAddT, isT_ss, isT_st, isT_ts]
    repeat (refine And.intro (by first | (show CPow _ _; unfold CPow; decide) | (show CMul _ _; unfold CMul; omega) | (show CDivB _ _; unfold CDivB; omega) | decide | omega | exact ⟨_, rfl⟩) ?_)
    refine ⟨a, _, _, _, rfl, by first | decide | omega, hm, hd, by omega, fun v1 o1 l1 u1 d1 => ?_⟩
    try simp only [sSeq, sAsg, sRet, sIf, sDrop, sNext, sNever, dOp, dUn, dVar, dC, dTest, isBool, dAnd, dOr, dNot, dAndV, dOrV, dNotV, dIf, dCons, dNil, dTup, dLst, dLstM, datas, dCall, dCB, gI0, gI, gB0, g1I, gAdd, gEqD, gNeD, gIx, gIn, g1A, g2A, gInt, gLen, gTuple, gSum, gBest, dSl, dNoPart, dPart, dgName, dgTup, dgCons, dgNil, dgSub, gSetI, dIndexT, dChain, startD, List.map_cons, List.map_nil, List.length_cons, List.length_nil, List.replicate, List.append, List.cons_append, List.nil_append, List.getElem?_cons_zero, List.getElem?_cons_succ, List.set_cons_zero, List.set_cons_succ, Option.some.injEq, Dv.d.injEq, Dv.r.injEq, PyData.tuple.injEq, PyData.list.injEq, PyData.str.injEq, PyData.int.injEq, exists_eq_left', Option.map_some, Nat.zero_add, Nat.reduceAdd, Nat.reduceSub, true_and, and_true, exists_and_left, at0, at1, at2, at3, at4, eqv_int, shaped_int, eqv_pr, shaped_pr, bes, intsD, in4, flat4, flatI, Bool.not_eq_true', decide_eq_false_iff_not, not_true_eq_false, if_true, if_false, Bool.not_true, Bool.not_false, Bool.false_eq_true, Bool.true_eq_false, Bool.or_eq_false_iff,  shaped_tn, shaped_hd, shaped_r, decide_eq_true_eq, sizeLine_eq, Nat.reduceLeDiff, Int.reduceToNat, Int.reducePow, Int.reduceMul, Int.reduceAdd, Int.reduceSub, Int.reduceNeg, Int.reduceMod, setM_same, MO.lst.injEq, setM_setM, ix0, ix1, ix2, ix3, ix4, dPick, keyOf, dSlT, dTupRng, gAppend, dAppend, g2B, dM1, eqv_tn, eqv_tnl, shaped_l, dSlM, g1N, dIsi, tyD, gListD, gListM, gTupleM, sPar, dgPair, isT_it, isT_is, isT_ib, isT_ii, isT_tt, gInS, sTry, xCall, xSeq, xIf, xThen, xRaise, dIsE, dNum, dRep1, gAddT, isT_ss, isT_st, isT_ts]
    obtain ⟨s1, m1, e1⟩ := at_mem (ns := [60, 100000, 9000000000]) l1 u1
    simp only [List.map_cons, List.map_nil] at e1
    rw [e1]
    try simp only [sSeq, sAsg, sRet, sIf, sDrop, sNext, sNever, dOp, dUn, dVar, dC, dTest, isBool, dAnd, dOr, dNot, dAndV, dOrV, dNotV, dIf, dCons, dNil, dTup, dLst, dLstM, datas, dCall, dCB, gI0, gI, gB0, g1I, gAdd, gEqD, gNeD, gIx, gIn, g1A, g2A, gInt, gLen, gTuple, gSum, gBest, dSl, dNoPart, dPart, dgName, dgTup, dgCons, dgNil, dgSub, gSetI, dIndexT, dChain, startD, List.map_cons, List.map_nil, List.length_cons, List.length_nil, List.replicate, List.append, List.cons_append, List.nil_append, List.getElem?_cons_zero, List.getElem?_cons_succ, List.set_cons_zero, List.set_cons_succ, Option.some.injEq, Dv.d.injEq, Dv.r.injEq, PyData.tuple.injEq, PyData.list.injEq, PyData.str.injEq, PyData.int.injEq, exists_eq_left', Option.map_some, Nat.zero_add, Nat.reduceAdd, Nat.reduceSub, true_and, and_true, exists_and_left, at0, at1, at2, at3, at4, eqv_int, shaped_int, eqv_pr, shaped_pr, bes, intsD, in4, flat4, flatI, Bool.not_eq_true', decide_eq_false_iff_not, not_true_eq_false, if_true, if_false, Bool.not_true, Bool.not_false, Bool.false_eq_true, Bool.true_eq_false, Bool.or_eq_false_iff,  shaped_tn, shaped_hd, shaped_r, decide_eq_true_eq, sizeLine_eq, Nat.reduceLeDiff, Int.reduceToNat, Int.reducePow, Int.reduceMul, Int.reduceAdd, Int.reduceSub, Int.reduceNeg, Int.reduceMod, setM_same, MO.lst.injEq, setM_setM, ix0, ix1, ix2, ix3, ix4, dPick, keyOf, dSlT, dTupRng, gAppend, dAppend, g2B, dM1, eqv_tn, eqv_tnl, shaped_l, dSlM, g1N, dIsi, tyD, gListD, gListM, gTupleM, sPar, dgPair, isT_it, isT_is, isT_ib, isT_ii, isT_tt, gInS, sTry, xCall, xSeq, xIf, xThen, xRaise, dIsE, dNum, dRep1, gAddT, isT_ss, isT_st, isT_ts]
    simp only [List.mem_cons, List.not_mem_nil, or_false] at m1
    refine ⟨a, s1, _, _, rfl, by omega, setM_same, d1, by omega, fun v2 o2 l2 u2 d2 => ?_⟩
    try simp only [sSeq, sAsg, sRet, sIf, sDrop, sNext, sNever, dOp, dUn, dVar, dC, dTest, isBool, dAnd, dOr, dNot, dAndV, dOrV, dNotV, dIf, dCons, dNil, dTup, dLst, dLstM, datas, dCall, dCB, gI0, gI, gB0, g1I, gAdd, gEqD, gNeD, gIx, gIn, g1A, g2A, gInt, gLen, gTuple, gSum, gBest, dSl, dNoPart, dPart, dgName, dgTup, dgCons, dgNil, dgSub, gSetI, dIndexT, dChain, startD, List.map_cons, List.map_nil, List.length_cons, List.length_nil, List.replicate, List.append, List.cons_append, List.nil_append, List.getElem?_cons_zero, List.getElem?_cons_succ, List.set_cons_zero, List.set_cons_succ, Option.some.injEq, Dv.d.injEq, Dv.r.injEq, PyData.tuple.injEq, PyData.list.injEq, PyData.str.injEq, PyData.int.injEq, exists_eq_left', Option.map_some, Nat.zero_add, Nat.reduceAdd, Nat.reduceSub, true_and, and_true, exists_and_left, at0, at1, at2, at3, at4, eqv_int, shaped_int, eqv_pr, shaped_pr, bes, intsD, in4, flat4, flatI, Bool.not_eq_true', decide_eq_false_iff_not, not_true_eq_false, if_true, if_false, Bool.not_true, Bool.not_false, Bool.false_eq_true, Bool.true_eq_false, Bool.or_eq_false_iff,  shaped_tn, shaped_hd, shaped_r, decide_eq_true_eq, sizeLine_eq, Nat.reduceLeDiff, Int.reduceToNat, Int.reducePow, Int.reduceMul, Int.reduceAdd, Int.reduceSub, Int.reduceNeg, Int.reduceMod, setM_same, MO.lst.injEq, setM_setM, ix0, ix1, ix2, ix3, ix4, dPick, keyOf, dSlT, dTupRng, gAppend, dAppend, g2B, dM1, eqv_tn, eqv_tnl, shaped_l, dSlM, g1N, dIsi, tyD, gListD, gListM, gTupleM, sPar, dgPair, isT_it, isT_is, isT_ib, isT_ii, isT_tt, gInS, sTry, xCall, xSeq, xIf, xThen, xRaise, dIsE, dNum, dRep1, gAddT, isT_ss, isT_st, isT_ts]
    refine ⟨a, _, _, _, rfl, by first | decide | omega, setM_same, d2, by omega, fun v3 o3 l3 u3 d3 => ?_⟩
    try simp only [sSeq, sAsg, sRet, sIf, sDrop, sNext, sNever, dOp, dUn, dVar, dC, dTest, isBool, dAnd, dOr, dNot, dAndV, dOrV, dNotV, dIf, dCons, dNil, dTup, dLst, dLstM, datas, dCall, dCB, gI0, gI, gB0, g1I, gAdd, gEqD, gNeD, gIx, gIn, g1A, g2A, gInt, gLen, gTuple, gSum, gBest, dSl, dNoPart, dPart, dgName, dgTup, dgCons, dgNil, dgSub, gSetI, dIndexT, dChain, startD, List.map_cons, List.map_nil, List.length_cons, List.length_nil, List.replicate, List.append, List.cons_append, List.nil_append, List.getElem?_cons_zero, List.getElem?_cons_succ, List.set_cons_zero, List.set_cons_succ, Option.some.injEq, Dv.d.injEq, Dv.r.injEq, PyData.tuple.injEq, PyData.list.injEq, PyData.str.injEq, PyData.int.injEq, exists_eq_left', Option.map_some, Nat.zero_add, Nat.reduceAdd, Nat.reduceSub, true_and, and_true, exists_and_left, at0, at1, at2, at3, at4, eqv_int, shaped_int, eqv_pr, shaped_pr, bes, intsD, in4, flat4, flatI, Bool.not_eq_true', decide_eq_false_iff_not, not_true_eq_false, if_true, if_false, Bool.not_true, Bool.not_false, Bool.false_eq_true, Bool.true_eq_false, Bool.or_eq_false_iff,  shaped_tn, shaped_hd, shaped_r, decide_eq_true_eq, sizeLine_eq, Nat.reduceLeDiff, Int.reduceToNat, Int.reducePow, Int.reduceMul, Int.reduceAdd, Int.reduceSub, Int.reduceNeg, Int.reduceMod, setM_same, MO.lst.injEq, setM_setM, ix0, ix1, ix2, ix3, ix4, dPick, keyOf, dSlT, dTupRng, gAppend, dAppend, g2B, dM1, eqv_tn, eqv_tnl, shaped_l, dSlM, g1N, dIsi, tyD, gListD, gListM, gTupleM, sPar, dgPair, isT_it, isT_is, isT_ib, isT_ii, isT_tt, gInS, sTry, xCall, xSeq, xIf, xThen, xRaise, dIsE, dNum, dRep1, gAddT, isT_ss, isT_st, isT_ts]
    repeat (refine And.intro (by first | (show CPow _ _; unfold CPow; decide) | (show CMul _ _; unfold CMul; omega) | (show CDivB _ _; unfold CDivB; omega) | decide | omega | exact ⟨_, rfl⟩) ?_)
    refine ⟨a, _, _, _, rfl, by first | decide | omega, setM_same, d3, by omega, fun v4 o4 l4 u4 d4 => ?_⟩
    try simp only [sSeq, sAsg, sRet, sIf, sDrop, sNext, sNever, dOp, dUn, dVar, dC, dTest, isBool, dAnd, dOr, dNot, dAndV, dOrV, dNotV, dIf, dCons, dNil, dTup, dLst, dLstM, datas, dCall, dCB, gI0, gI, gB0, g1I, gAdd, gEqD, gNeD, gIx, gIn, g1A, g2A, gInt, gLen, gTuple, gSum, gBest, dSl, dNoPart, dPart, dgName, dgTup, dgCons, dgNil, dgSub, gSetI, dIndexT, dChain, startD, List.map_cons, List.map_nil, List.length_cons, List.length_nil, List.replicate, List.append, List.cons_append, List.nil_append, List.getElem?_cons_zero, List.getElem?_cons_succ, List.set_cons_zero, List.set_cons_succ, Option.some.injEq, Dv.d.injEq, Dv.r.injEq, PyData.tuple.injEq, PyData.list.injEq, PyData.str.injEq, PyData.int.injEq, exists_eq_left', Option.map_some, Nat.zero_add, Nat.reduceAdd, Nat.reduceSub, true_and, and_true, exists_and_left, at0, at1, at2, at3, at4, eqv_int, shaped_int, eqv_pr, shaped_pr, bes, intsD, in4, flat4, flatI, Bool.not_eq_true', decide_eq_false_iff_not, not_true_eq_false, if_true, if_false, Bool.not_true, Bool.not_false, Bool.false_eq_true, Bool.true_eq_false, Bool.or_eq_false_iff,  shaped_tn, shaped_hd, shaped_r, decide_eq_true_eq, sizeLine_eq, Nat.reduceLeDiff, Int.reduceToNat, Int.reducePow, Int.reduceMul, Int.reduceAdd, Int.reduceSub, Int.reduceNeg, Int.reduceMod, setM_same, MO.lst.injEq, setM_setM, ix0, ix1, ix2, ix3, ix4, dPick, keyOf, dSlT, dTupRng, gAppend, dAppend, g2B, dM1, eqv_tn, eqv_tnl, shaped_l, dSlM, g1N, dIsi, tyD, gListD, gListM, gTupleM, sPar, dgPair, isT_it, isT_is, isT_ib, isT_ii, isT_tt, gInS, sTry, xCall, xSeq, xIf, xThen, xRaise, dIsE, dNum, dRep1, gAddT, isT_ss, isT_st, isT_ts]
    refine ⟨by unfold CMul; omega, by unfold CMul; omega, fun p hp => ?_⟩
    have hpa : a ≠ p := fun e => by
      subst e
      rw [setM_same] at hp
      cases hp
    have hmp : m p = none := by rw [setM_ne (Ne.symm hpa)] at hp; exact hp
    refine ⟨⟨_, rfl⟩, a, _, o4, _, rfl, by omega, by rw [setM_ne hpa]; exact setM_same, d4, by omega, fun v5 o5 l5 u5 d5 => ?_⟩
    try simp only [sSeq, sAsg, sRet, sIf, sDrop, sNext, sNever, dOp, dUn, dVar, dC, dTest, isBool, dAnd, dOr, dNot, dAndV, dOrV, dNotV, dIf, dCons, dNil, dTup, dLst, dLstM, datas, dCall, dCB, gI0, gI, gB0, g1I, gAdd, gEqD, gNeD, gIx, gIn, g1A, g2A, gInt, gLen, gTuple, gSum, gBest, dSl, dNoPart, dPart, dgName, dgTup, dgCons, dgNil, dgSub, gSetI, dIndexT, dChain, startD, List.map_cons, List.map_nil, List.length_cons, List.length_nil, List.replicate, List.append, List.cons_append, List.nil_append, List.getElem?_cons_zero, List.getElem?_cons_succ, List.set_cons_zero, List.set_cons_succ, Option.some.injEq, Dv.d.injEq, Dv.r.injEq, PyData.tuple.injEq, PyData.list.injEq, PyData.str.injEq, PyData.int.injEq, exists_eq_left', Option.map_some, Nat.zero_add, Nat.reduceAdd, Nat.reduceSub, true_and, and_true, exists_and_left, at0, at1, at2, at3, at4, eqv_int, shaped_int, eqv_pr, shaped_pr, bes, intsD, in4, flat4, flatI, Bool.not_eq_true', decide_eq_false_iff_not, not_true_eq_false, if_true, if_false, Bool.not_true, Bool.not_false, Bool.false_eq_true, Bool.true_eq_false, Bool.or_eq_false_iff,  shaped_tn, shaped_hd, shaped_r, decide_eq_true_eq, sizeLine_eq, Nat.reduceLeDiff, Int.reduceToNat, Int.reducePow, Int.reduceMul, Int.reduceAdd, Int.reduceSub, Int.reduceNeg, Int.reduceMod, setM_same, MO.lst.injEq, setM_setM, ix0, ix1, ix2, ix3, ix4, dPick, keyOf, dSlT, dTupRng, gAppend, dAppend, g2B, dM1, eqv_tn, eqv_tnl, shaped_l, dSlM, g1N, dIsi, tyD, gListD, gListM, gTupleM, sPar, dgPair, isT_it, isT_is, isT_ib, isT_ii, isT_tt, gInS, sTry, xCall, xSeq, xIf, xThen, xRaise, dIsE, dNum, dRep1, gAddT, isT_ss, isT_st, isT_ts]
    refine ⟨a, _, o5, _, rfl, by decide, setM_same, d5, by omega, fun v6 o6 l6 u6 d6 => ?_⟩
    try simp only [sSeq, sAsg, sRet, sIf, sDrop, sNext, sNever, dOp, dUn, dVar, dC, dTest, isBool, dAnd, dOr, dNot, dAndV, dOrV, dNotV, dIf, dCons, dNil, dTup, dLst, dLstM, datas, dCall, dCB, gI0, gI, gB0, g1I, gAdd, gEqD, gNeD, gIx, gIn, g1A, g2A, gInt, gLen, gTuple, gSum, gBest, dSl, dNoPart, dPart, dgName, dgTup, dgCons, dgNil, dgSub, gSetI, dIndexT, dChain, startD, List.map_cons, List.map_nil, List.length_cons, List.length_nil, List.replicate, List.append, List.cons_append, List.nil_append, List.getElem?_cons_zero, List.getElem?_cons_succ, List.set_cons_zero, List.set_cons_succ, Option.some.injEq, Dv.d.injEq, Dv.r.injEq, PyData.tuple.injEq, PyData.list.injEq, PyData.str.injEq, PyData.int.injEq, exists_eq_left', Option.map_some, Nat.zero_add, Nat.reduceAdd, Nat.reduceSub, true_and, and_true, exists_and_left, at0, at1, at2, at3, at4, eqv_int, shaped_int, eqv_pr, shaped_pr, bes, intsD, in4, flat4, flatI, Bool.not_eq_true', decide_eq_false_iff_not, not_true_eq_false, if_true, if_false, Bool.not_true, Bool.not_false, Bool.false_eq_true, Bool.true_eq_false, Bool.or_eq_false_iff,  shaped_tn, shaped_hd, shaped_r, decide_eq_true_eq, sizeLine_eq, Nat.reduceLeDiff, Int.reduceToNat, Int.reducePow, Int.reduceMul, Int.reduceAdd, Int.reduceSub, Int.reduceNeg, Int.reduceMod, setM_same, MO.lst.injEq, setM_setM, ix0, ix1, ix2, ix3, ix4, dPick, keyOf, dSlT, dTupRng, gAppend, dAppend, g2B, dM1, eqv_tn, eqv_tnl, shaped_l, dSlM, g1N, dIsi, tyD, gListD, gListM, gTupleM, sPar, dgPair, isT_it, isT_is, isT_ib, isT_ii, isT_tt, gInS, sTry, xCall, xSeq, xIf, xThen, xRaise, dIsE, dNum, dRep1, gAddT, isT_ss, isT_st, isT_ts]
    obtain ⟨s6, m6, e6⟩ := at_mem (ns := [100000000000000000000 - s, v5]) (r := v6 % 2) (by omega) (by show v6 % 2 < 2; omega)
    simp only [List.map_cons, List.map_nil] at e6
    simp only [List.mem_cons, List.not_mem_nil, or_false] at m6
    refine ⟨by decide, _, e6, ?_⟩
    refine ⟨_, by rw [setM_ne (Ne.symm hpa)]; exact setM_same, by simp, ?_⟩
    refine ⟨a, _, o6, _, rfl, by decide, by rw [setM_ne hpa]; exact setM_same, d6, by omega, fun v7 o7 l7 u7 d7 => ?_⟩
    try simp only [sSeq, sAsg, sRet, sIf, sDrop, sNext, sNever, dOp, dUn, dVar, dC, dTest, isBool, dAnd, dOr, dNot, dAndV, dOrV, dNotV, dIf, dCons, dNil, dTup, dLst, dLstM, datas, dCall, dCB, gI0, gI, gB0, g1I, gAdd, gEqD, gNeD, gIx, gIn, g1A, g2A, gInt, gLen, gTuple, gSum, gBest, dSl, dNoPart, dPart, dgName, dgTup, dgCons, dgNil, dgSub, gSetI, dIndexT, dChain, startD, List.map_cons, List.map_nil, List.length_cons, List.length_nil, List.replicate, List.append, List.cons_append, List.nil_append, List.getElem?_cons_zero, List.getElem?_cons_succ, List.set_cons_zero, List.set_cons_succ, Option.some.injEq, Dv.d.injEq, Dv.r.injEq, PyData.tuple.injEq, PyData.list.injEq, PyData.str.injEq, PyData.int.injEq, exists_eq_left', Option.map_some, Nat.zero_add, Nat.reduceAdd, Nat.reduceSub, true_and, and_true, exists_and_left, at0, at1, at2, at3, at4, eqv_int, shaped_int, eqv_pr, shaped_pr, bes, intsD, in4, flat4, flatI, Bool.not_eq_true', decide_eq_false_iff_not, not_true_eq_false, if_true, if_false, Bool.not_true, Bool.not_false, Bool.false_eq_true, Bool.true_eq_false, Bool.or_eq_false_iff,  shaped_tn, shaped_hd, shaped_r, decide_eq_true_eq, sizeLine_eq, Nat.reduceLeDiff, Int.reduceToNat, Int.reducePow, Int.reduceMul, Int.reduceAdd, Int.reduceSub, Int.reduceNeg, Int.reduceMod, setM_same, MO.lst.injEq, setM_setM, ix0, ix1, ix2, ix3, ix4, dPick, keyOf, dSlT, dTupRng, gAppend, dAppend, g2B, dM1, eqv_tn, eqv_tnl, shaped_l, dSlM, g1N, dIsi, tyD, gListD, gListM, gTupleM, sPar, dgPair, isT_it, isT_is, isT_ib, isT_ii, isT_tt, gInS, sTry, xCall, xSeq, xIf, xThen, xRaise, dIsE, dNum, dRep1, gAddT, isT_ss, isT_st, isT_ts]
    refine ⟨_, by rw [setM_ne (Ne.symm hpa)]; exact setM_same, ?_⟩
    try simp only [sSeq, sAsg, sRet, sIf, sDrop, sNext, sNever, dOp, dUn, dVar, dC, dTest, isBool, dAnd, dOr, dNot, dAndV, dOrV, dNotV, dIf, dCons, dNil, dTup, dLst, dLstM, datas, dCall, dCB, gI0, gI, gB0, g1I, gAdd, gEqD, gNeD, gIx, gIn, g1A, g2A, gInt, gLen, gTuple, gSum, gBest, dSl, dNoPart, dPart, dgName, dgTup, dgCons, dgNil, dgSub, gSetI, dIndexT, dChain, startD, List.map_cons, List.map_nil, List.length_cons, List.length_nil, List.replicate, List.append, List.cons_append, List.nil_append, List.getElem?_cons_zero, List.getElem?_cons_succ, List.set_cons_zero, List.set_cons_succ, Option.some.injEq, Dv.d.injEq, Dv.r.injEq, PyData.tuple.injEq, PyData.list.injEq, PyData.str.injEq, PyData.int.injEq, exists_eq_left', Option.map_some, Nat.zero_add, Nat.reduceAdd, Nat.reduceSub, true_and, and_true, exists_and_left, at0, at1, at2, at3, at4, eqv_int, shaped_int, eqv_pr, shaped_pr, bes, intsD, in4, flat4, flatI, Bool.not_eq_true', decide_eq_false_iff_not, not_true_eq_false, if_true, if_false, Bool.not_true, Bool.not_false, Bool.false_eq_true, Bool.true_eq_false, Bool.or_eq_false_iff,  shaped_tn, shaped_hd, shaped_r, decide_eq_true_eq, sizeLine_eq, Nat.reduceLeDiff, Int.reduceToNat, Int.reducePow, Int.reduceMul, Int.reduceAdd, Int.reduceSub, Int.reduceNeg, Int.reduceMod, setM_same, MO.lst.injEq, setM_setM, ix0, ix1, ix2, ix3, ix4, dPick, keyOf, dSlT, dTupRng, gAppend, dAppend, g2B, dM1, eqv_tn, eqv_tnl, shaped_l, dSlM, g1N, dIsi, tyD, gListD, gListM, gTupleM, sPar, dgPair, isT_it, isT_is, isT_ib, isT_ii, isT_tt, gInS, sTry, xCall, xSeq, xIf, xThen, xRaise, dIsE, dNum, dRep1, gAddT, isT_ss, isT_st, isT_ts]
    obtain ⟨s8, m8, e8⟩ := at_memD (ns := [v3, v4, v2 * v2, v2 * (v2 + 1), s6]) l7 u7
    simp only [List.map_cons, List.map_nil] at e8
    refine ⟨_, e8, ?_⟩
    refine ⟨a, _, o7, _, rfl, by decide, setM_same, d7, by omega, fun v9 o9 l9 u9 d9 => ?_⟩
    try simp only [sSeq, sAsg, sRet, sIf, sDrop, sNext, sNever, dOp, dUn, dVar, dC, dTest, isBool, dAnd, dOr, dNot, dAndV, dOrV, dNotV, dIf, dCons, dNil, dTup, dLst, dLstM, datas, dCall, dCB, gI0, gI, gB0, g1I, gAdd, gEqD, gNeD, gIx, gIn, g1A, g2A, gInt, gLen, gTuple, gSum, gBest, dSl, dNoPart, dPart, dgName, dgTup, dgCons, dgNil, dgSub, gSetI, dIndexT, dChain, startD, List.map_cons, List.map_nil, List.length_cons, List.length_nil, List.replicate, List.append, List.cons_append, List.nil_append, List.getElem?_cons_zero, List.getElem?_cons_succ, List.set_cons_zero, List.set_cons_succ, Option.some.injEq, Dv.d.injEq, Dv.r.injEq, PyData.tuple.injEq, PyData.list.injEq, PyData.str.injEq, PyData.int.injEq, exists_eq_left', Option.map_some, Nat.zero_add, Nat.reduceAdd, Nat.reduceSub, true_and, and_true, exists_and_left, at0, at1, at2, at3, at4, eqv_int, shaped_int, eqv_pr, shaped_pr, bes, intsD, in4, flat4, flatI, Bool.not_eq_true', decide_eq_false_iff_not, not_true_eq_false, if_true, if_false, Bool.not_true, Bool.not_false, Bool.false_eq_true, Bool.true_eq_false, Bool.or_eq_false_iff,  shaped_tn, shaped_hd, shaped_r, decide_eq_true_eq, sizeLine_eq, Nat.reduceLeDiff, Int.reduceToNat, Int.reducePow, Int.reduceMul, Int.reduceAdd, Int.reduceSub, Int.reduceNeg, Int.reduceMod, setM_same, MO.lst.injEq, setM_setM, ix0, ix1, ix2, ix3, ix4, dPick, keyOf, dSlT, dTupRng, gAppend, dAppend, g2B, dM1, eqv_tn, eqv_tnl, shaped_l, dSlM, g1N, dIsi, tyD, gListD, gListM, gTupleM, sPar, dgPair, isT_it, isT_is, isT_ib, isT_ii, isT_tt, gInS, sTry, xCall, xSeq, xIf, xThen, xRaise, dIsE, dNum, dRep1, gAddT, isT_ss, isT_st, isT_ts]
    refine ⟨setM m a o9, ?_, z _ _ ?_ ?_ (d9.mono (by omega))⟩
    · intro b q hb
      unfold setM at hb ⊢
      by_cases e : b = a
      · simpa [e] using hb
      · have hb' : m b = some q := by simpa [e] using hb
        have hbp : b ≠ p := fun z => by rw [z, hmp] at hb'; cases hb'
        simpa [e, hbp] using hb'
    · unfold minI maxI; repeat' split
      all_goals omega
    · unfold minI maxI; repeat' split
      all_goals omega
theorem sc__law_beside : FnScope ["deck", "one", "other", "start", "some"] ["deck", "one"] (defScope s__law_beside) := ⟨rfl, rfl, rfl, by decide +kernel, rfl, by decide +kernel, by decide +kernel⟩
theorem ok__law_beside (T : Tx K mg) : FnOk P w K mg base CX0 4 T.a__law_beside T.fd__law_beside ["deck", "one"] (spD K F__law_beside) := by
  refine Fun.okD T.F__law_beside sc__law_beside mo__law_beside (fun ds m Q h => ?_) (fun cdv A outer s H E hr => ?_)
  · unfold F__law_beside at h; obtain ⟨a, o, c, s, q, r, rfl, hm, hd, hc, hq, hs, z⟩ := h; rfl
  · refine ⟨_, (dss_cons (ds_set (i := 2) sc__law_beside.nd rfl (by first | exact Or.inl rfl | exact Or.inr rfl) (de_call mo__law_spiral ((ok__law_spiral T).mono (by decide : 3 ≤ 3)) hr (by rfl) T.m__law_spiral T.F__law_spiral.kp T.n__law_spiral (da_cons (dv 0) da_nil)))
      (dss_cons (ds_set (i := 3) sc__law_beside.nd rfl (by first | exact Or.inl rfl | exact Or.inr rfl) (de_add (de_ix (dv 1) de_int) (de_ix (de_lst (da_cons de_int (da_cons de_int (da_cons (de_sub (de_call mo__law_draw ((ok__law_draw T).mono (by decide : 1 ≤ 3)) hr (by rfl) T.m__law_draw T.F__law_draw.kp T.n__law_draw (da_cons (dv 0) (da_cons de_int da_nil))) de_int) (da_cons (de_sub (de_call mo__law_draw ((ok__law_draw T).mono (by decide : 1 ≤ 3)) hr (by rfl) T.m__law_draw T.F__law_draw.kp T.n__law_draw (da_cons (dv 0) (da_cons de_int da_nil))) de_int) da_nil))))) (de_call mo__law_draw ((ok__law_draw T).mono (by decide : 1 ≤ 3)) hr (by rfl) T.m__law_draw T.F__law_draw.kp T.n__law_draw (da_cons (dv 0) (da_cons de_int da_nil))))))
      (dss_cons (ds_set (i := 3) sc__law_beside.nd rfl (by first | exact Or.inl rfl | exact Or.inr rfl) (de_max2 rfl (by rfl) T.b_max (da_cons (de_sub de_int (de_pow de_int de_int)) (da_cons (de_min2 rfl (by rfl) T.b_min (da_cons (de_pow de_int de_int) (da_cons (dv 3) da_nil))) da_nil))))
      (dss_cons (ds_set (i := 4) sc__law_beside.nd rfl (by first | exact Or.inl rfl | exact Or.inr rfl) (de_lst (da_cons (dv 2) (da_cons (de_addT (de_tup (da_cons (dv 3) da_nil)) (de_sliceT (dv 2) (do_some de_int) do_none)) (da_cons (de_tup (da_cons (dv 3) (da_cons (de_ix (dv 1) de_int) (da_cons (de_ix (dv 2) de_int) da_nil)))) (da_cons (de_tup (da_cons (dv 3) (da_cons (de_ix (dv 2) de_int) (da_cons (de_ix (dv 1) de_int) da_nil)))) (da_cons (de_addT (de_tup (da_cons (dv 3) da_nil)) (de_sliceT (dv 1) (do_some de_int) do_none)) da_nil)))))))
      (dss_one (ds_ret (de_ix (dv 4) (de_call mo__law_draw ((ok__law_draw T).mono (by decide : 1 ≤ 3)) hr (by rfl) T.m__law_draw T.F__law_draw.kp T.n__law_draw (da_cons (dv 0) (da_cons de_int da_nil)))))))))), fun ds m Q h => ?_⟩
    obtain ⟨a, o, c, s, q, r, rfl, hm, hd, hc, hq, hs, z⟩ := h
    try simp only [sSeq, sAsg, sRet, sIf, sDrop, sNext, sNever, dOp, dUn, dVar, dC, dTest, isBool, dAnd, dOr, dNot, dAndV, dOrV, dNotV, dIf, dCons, dNil, dTup, dLst, dLstM, datas, dCall, dCB, gI0, gI, gB0, g1I, gAdd, gEqD, gNeD, gIx, gIn, g1A, g2A, gInt, gLen, gTuple, gSum, gBest, dSl, dNoPart, dPart, dgName, dgTup, dgCons, dgNil, dgSub, gSetI, dIndexT, dChain, startD, List.map_cons, List.map_nil, List.length_cons, List.length_nil, List.replicate, List.append, List.cons_append, List.nil_append, List.getElem?_cons_zero, List.getElem?_cons_succ, List.set_cons_zero, List.set_cons_succ, Option.some.injEq, Dv.d.injEq, Dv.r.injEq, PyData.tuple.injEq, PyData.list.injEq, PyData.str.injEq, PyData.int.injEq, exists_eq_left', Option.map_some, Nat.zero_add, Nat.reduceAdd, Nat.reduceSub, true_and, and_true, exists_and_left, at0, at1, at2, at3, at4, eqv_int, shaped_int, eqv_pr, shaped_pr, bes, intsD, in4, flat4, flatI, Bool.not_eq_true', decide_eq_false_iff_not, not_true_eq_false, if_true, if_false, Bool.not_true, Bool.not_false, Bool.false_eq_true, Bool.true_eq_false, Bool.or_eq_false_iff,  shaped_tn, shaped_hd, shaped_r, decide_eq_true_eq, sizeLine_eq, Nat.reduceLeDiff, Int.reduceToNat, Int.reducePow, Int.reduceMul, Int.reduceAdd, Int.reduceSub, Int.reduceNeg, Int.reduceMod, setM_same, MO.lst.injEq, setM_setM, ix0, ix1, ix2, ix3, ix4, dPick, keyOf, dSlT, dTupRng, gAppend, dAppend, g2B, dM1, eqv_tn, eqv_tnl, shaped_l, dSlM, g1N, dIsi, tyD, gListD, gListM, gTupleM, sPar, dgPair, isT_it, isT_is, isT_ib, isT_ii, isT_tt, gInS, sTry, xCall, xSeq, xIf, xThen, xRaise, dIsE, dNum, dRep1, gAddT, isT_ss, isT_st, isT_ts, dLstRng, sAugI, g3A]
    refine ⟨a, _, _, rfl, hm, hd, by omega, fun s1 q1 r1 o1 hs1 hq1 d1 => ?_⟩
    try simp only [sSeq, sAsg, sRet, sIf, sDrop, sNext, sNever, dOp, dUn, dVar, dC, dTest, isBool, dAnd, dOr, dNot, dAndV, dOrV, dNotV, dIf, dCons, dNil, dTup, dLst, dLstM, datas, dCall, dCB, gI0, gI, gB0, g1I, gAdd, gEqD, gNeD, gIx, gIn, g1A, g2A, gInt, gLen, gTuple, gSum, gBest, dSl, dNoPart, dPart, dgName, dgTup, dgCons, dgNil, dgSub, gSetI, dIndexT, dChain, startD, List.map_cons, List.map_nil, List.length_cons, List.length_nil, List.replicate, List.append, List.cons_append, List.nil_append, List.getElem?_cons_zero, List.getElem?_cons_succ, List.set_cons_zero, List.set_cons_succ, Option.some.injEq, Dv.d.injEq, Dv.r.injEq, PyData.tuple.injEq, PyData.list.injEq, PyData.str.injEq, PyData.int.injEq, exists_eq_left', Option.map_some, Nat.zero_add, Nat.reduceAdd, Nat.reduceSub, true_and, and_true, exists_and_left, at0, at1, at2, at3, at4, eqv_int, shaped_int, eqv_pr, shaped_pr, bes, intsD, in4, flat4, flatI, Bool.not_eq_true', decide_eq_false_iff_not, not_true_eq_false, if_true, if_false, Bool.not_true, Bool.not_false, Bool.false_eq_true, Bool.true_eq_false, Bool.or_eq_false_iff,  shaped_tn, shaped_hd, shaped_r, decide_eq_true_eq, sizeLine_eq, Nat.reduceLeDiff, Int.reduceToNat, Int.reducePow, Int.reduceMul, Int.reduceAdd, Int.reduceSub, Int.reduceNeg, Int.reduceMod, setM_same, MO.lst.injEq, setM_setM, ix0, ix1, ix2, ix3, ix4, dPick, keyOf, dSlT, dTupRng, gAppend, dAppend, g2B, dM1, eqv_tn, eqv_tnl, shaped_l, dSlM, g1N, dIsi, tyD, gListD, gListM, gTupleM, sPar, dgPair, isT_it, isT_is, isT_ib, isT_ii, isT_tt, gInS, sTry, xCall, xSeq, xIf, xThen, xRaise, dIsE, dNum, dRep1, gAddT, isT_ss, isT_st, isT_ts, dLstRng, sAugI, g3A]
    refine ⟨a, _, _, _, rfl, by decide, setM_same, d1, by omega, fun v2 o2 l2 u2 d2 => ?_⟩
    try simp only [sSeq, sAsg, sRet, sIf, sDrop, sNext, sNever, dOp, dUn, dVar, dC, dTest, isBool, dAnd, dOr, dNot, dAndV, dOrV, dNotV, dIf, dCons, dNil, dTup, dLst, dLstM, datas, dCall, dCB, gI0, gI, gB0, g1I, gAdd, gEqD, gNeD, gIx, gIn, g1A, g2A, gInt, gLen, gTuple, gSum, gBest, dSl, dNoPart, dPart, dgName, dgTup, dgCons, dgNil, dgSub, gSetI, dIndexT, dChain, startD, List.map_cons, List.map_nil, List.length_cons, List.length_nil, List.replicate, List.append, List.cons_append, List.nil_append, List.getElem?_cons_zero, List.getElem?_cons_succ, List.set_cons_zero, List.set_cons_succ, Option.some.injEq, Dv.d.injEq, Dv.r.injEq, PyData.tuple.injEq, PyData.list.injEq, PyData.str.injEq, PyData.int.injEq, exists_eq_left', Option.map_some, Nat.zero_add, Nat.reduceAdd, Nat.reduceSub, true_and, and_true, exists_and_left, at0, at1, at2, at3, at4, eqv_int, shaped_int, eqv_pr, shaped_pr, bes, intsD, in4, flat4, flatI, Bool.not_eq_true', decide_eq_false_iff_not, not_true_eq_false, if_true, if_false, Bool.not_true, Bool.not_false, Bool.false_eq_true, Bool.true_eq_false, Bool.or_eq_false_iff,  shaped_tn, shaped_hd, shaped_r, decide_eq_true_eq, sizeLine_eq, Nat.reduceLeDiff, Int.reduceToNat, Int.reducePow, Int.reduceMul, Int.reduceAdd, Int.reduceSub, Int.reduceNeg, Int.reduceMod, setM_same, MO.lst.injEq, setM_setM, ix0, ix1, ix2, ix3, ix4, dPick, keyOf, dSlT, dTupRng, gAppend, dAppend, g2B, dM1, eqv_tn, eqv_tnl, shaped_l, dSlM, g1N, dIsi, tyD, gListD, gListM, gTupleM, sPar, dgPair, isT_it, isT_is, isT_ib, isT_ii, isT_tt, gInS, sTry, xCall, xSeq, xIf, xThen, xRaise, dIsE, dNum, dRep1, gAddT, isT_ss, isT_st, isT_ts, dLstRng, sAugI, g3A]
    refine ⟨a, _, _, _, rfl, by decide, setM_same, d2, by omega, fun v3 o3 l3 u3 d3 => ?_⟩
    try simp only [sSeq, sAsg, sRet, sIf, sDrop, sNext, sNever, dOp, dUn, dVar, dC, dTest, isBool, dAnd, dOr, dNot, dAndV, dOrV, dNotV, dIf, dCons, dNil, dTup, dLst, dLstM, datas, dCall, dCB, gI0, gI, gB0, g1I, gAdd, gEqD, gNeD, gIx, gIn, g1A, g2A, gInt, gLen, gTuple, gSum, gBest, dSl, dNoPart, dPart, dgName, dgTup, dgCons, dgNil, dgSub, gSetI, dIndexT, dChain, startD, List.map_cons, List.map_nil, List.length_cons, List.length_nil, List.replicate, List.append, List.cons_append, List.nil_append, List.getElem?_cons_zero, List.getElem?_cons_succ, List.set_cons_zero, List.set_cons_succ, Option.some.injEq, Dv.d.injEq, Dv.r.injEq, PyData.tuple.injEq, PyData.list.injEq, PyData.str.injEq, PyData.int.injEq, exists_eq_left', Option.map_some, Nat.zero_add, Nat.reduceAdd, Nat.reduceSub, true_and, and_true, exists_and_left, at0, at1, at2, at3, at4, eqv_int, shaped_int, eqv_pr, shaped_pr, bes, intsD, in4, flat4, flatI, Bool.not_eq_true', decide_eq_false_iff_not, not_true_eq_false, if_true, if_false, Bool.not_true, Bool.not_false, Bool.false_eq_true, Bool.true_eq_false, Bool.or_eq_false_iff,  shaped_tn, shaped_hd, shaped_r, decide_eq_true_eq, sizeLine_eq, Nat.reduceLeDiff, Int.reduceToNat, Int.reducePow, Int.reduceMul, Int.reduceAdd, Int.reduceSub, Int.reduceNeg, Int.reduceMod, setM_same, MO.lst.injEq, setM_setM, ix0, ix1, ix2, ix3, ix4, dPick, keyOf, dSlT, dTupRng, gAppend, dAppend, g2B, dM1, eqv_tn, eqv_tnl, shaped_l, dSlM, g1N, dIsi, tyD, gListD, gListM, gTupleM, sPar, dgPair, isT_it, isT_is, isT_ib, isT_ii, isT_tt, gInS, sTry, xCall, xSeq, xIf, xThen, xRaise, dIsE, dNum, dRep1, gAddT, isT_ss, isT_st, isT_ts, dLstRng, sAugI, g3A]
    refine ⟨a, _, _, _, rfl, by decide, setM_same, d3, by omega, fun v4 o4 l4 u4 d4 => ?_⟩
    obtain ⟨w, mw, ew⟩ := at_mem (ns := [0, 0, v2 - 4, v3 - 100]) l4 u4
    simp only [List.map_cons, List.map_nil] at ew
    try simp only [sSeq, sAsg, sRet, sIf, sDrop, sNext, sNever, dOp, dUn, dVar, dC, dTest, isBool, dAnd, dOr, dNot, dAndV, dOrV, dNotV, dIf, dCons, dNil, dTup, dLst, dLstM, datas, dCall, dCB, gI0, gI, gB0, g1I, gAdd, gEqD, gNeD, gIx, gIn, g1A, g2A, gInt, gLen, gTuple, gSum, gBest, dSl, dNoPart, dPart, dgName, dgTup, dgCons, dgNil, dgSub, gSetI, dIndexT, dChain, startD, List.map_cons, List.map_nil, List.length_cons, List.length_nil, List.replicate, List.append, List.cons_append, List.nil_append, List.getElem?_cons_zero, List.getElem?_cons_succ, List.set_cons_zero, List.set_cons_succ, Option.some.injEq, Dv.d.injEq, Dv.r.injEq, PyData.tuple.injEq, PyData.list.injEq, PyData.str.injEq, PyData.int.injEq, exists_eq_left', Option.map_some, Nat.zero_add, Nat.reduceAdd, Nat.reduceSub, true_and, and_true, exists_and_left, at0, at1, at2, at3, at4, eqv_int, shaped_int, eqv_pr, shaped_pr, bes, intsD, in4, flat4, flatI, Bool.not_eq_true', decide_eq_false_iff_not, not_true_eq_false, if_true, if_false, Bool.not_true, Bool.not_false, Bool.false_eq_true, Bool.true_eq_false, Bool.or_eq_false_iff,  shaped_tn, shaped_hd, shaped_r, decide_eq_true_eq, sizeLine_eq, Nat.reduceLeDiff, Int.reduceToNat, Int.reducePow, Int.reduceMul, Int.reduceAdd, Int.reduceSub, Int.reduceNeg, Int.reduceMod, setM_same, MO.lst.injEq, setM_setM, ix0, ix1, ix2, ix3, ix4, dPick, keyOf, dSlT, dTupRng, gAppend, dAppend, g2B, dM1, eqv_tn, eqv_tnl, shaped_l, dSlM, g1N, dIsi, tyD, gListD, gListM, gTupleM, sPar, dgPair, isT_it, isT_is, isT_ib, isT_ii, isT_tt, gInS, sTry, xCall, xSeq, xIf, xThen, xRaise, dIsE, dNum, dRep1, gAddT, isT_ss, isT_st, isT_ts, dLstRng, sAugI, g3A]
    refine ⟨_, ew, ?_⟩
    try simp only [sSeq, sAsg, sRet, sIf, sDrop, sNext, sNever, dOp, dUn, dVar, dC, dTest, isBool, dAnd, dOr, dNot, dAndV, dOrV, dNotV, dIf, dCons, dNil, dTup, dLst, dLstM, datas, dCall, dCB, gI0, gI, gB0, g1I, gAdd, gEqD, gNeD, gIx, gIn, g1A, g2A, gInt, gLen, gTuple, gSum, gBest, dSl, dNoPart, dPart, dgName, dgTup, dgCons, dgNil, dgSub, gSetI, dIndexT, dChain, startD, List.map_cons, List.map_nil, List.length_cons, List.length_nil, List.replicate, List.append, List.cons_append, List.nil_append, List.getElem?_cons_zero, List.getElem?_cons_succ, List.set_cons_zero, List.set_cons_succ, Option.some.injEq, Dv.d.injEq, Dv.r.injEq, PyData.tuple.injEq, PyData.list.injEq, PyData.str.injEq, PyData.int.injEq, exists_eq_left', Option.map_some, Nat.zero_add, Nat.reduceAdd, Nat.reduceSub, true_and, and_true, exists_and_left, at0, at1, at2, at3, at4, eqv_int, shaped_int, eqv_pr, shaped_pr, bes, intsD, in4, flat4, flatI, Bool.not_eq_true', decide_eq_false_iff_not, not_true_eq_false, if_true, if_false, Bool.not_true, Bool.not_false, Bool.false_eq_true, Bool.true_eq_false, Bool.or_eq_false_iff,  shaped_tn, shaped_hd, shaped_r, decide_eq_true_eq, sizeLine_eq, Nat.reduceLeDiff, Int.reduceToNat, Int.reducePow, Int.reduceMul, Int.reduceAdd, Int.reduceSub, Int.reduceNeg, Int.reduceMod, setM_same, MO.lst.injEq, setM_setM, ix0, ix1, ix2, ix3, ix4, dPick, keyOf, dSlT, dTupRng, gAppend, dAppend, g2B, dM1, eqv_tn, eqv_tnl, shaped_l, dSlM, g1N, dIsi, tyD, gListD, gListM, gTupleM, sPar, dgPair, isT_it, isT_is, isT_ib, isT_ii, isT_tt, gInS, sTry, xCall, xSeq, xIf, xThen, xRaise, dIsE, dNum, dRep1, gAddT, isT_ss, isT_st, isT_ts, dLstRng, sAugI, g3A]
    have hb : ∀ t : Int, -1000000000000000000 ≤ maxI (-1000000000000000000) (minI 1000000000000000000 t) ∧ maxI (-1000000000000000000) (minI 1000000000000000000 t) ≤ 1000000000000000000 := fun t => by unfold minI maxI; (repeat' split) <;> omega
    have hb1 := hb (s + w)
    have e1 : cutD [PyData.int s1, PyData.str (hdS q1), PyData.str (tnS r1)] (some 1) none = [.str (hdS q1), .str (tnS r1)] := rfl
    have e2 : cutD [PyData.int s, PyData.str (hdS q), PyData.str (tnS r)] (some 1) none = [.str (hdS q), .str (tnS r)] := rfl
    rw [e1, e2]
    repeat (refine And.intro (by first | (show CPow _ _; unfold CPow; decide) | (show CMul _ _; unfold CMul; omega) | (show CDivB _ _; unfold CDivB; omega) | decide | omega | exact ⟨_, rfl⟩) ?_)
    refine ⟨by simp, by simp, by simp, by decide, by simp, by simp, by simp, ?_⟩
    generalize maxI (-1000000000000000000) (minI 1000000000000000000 (s + w)) = w1 at *
    refine ⟨a, _, _, _, rfl, by decide, setM_same, d4, by omega, fun v5 o5 l5 u5 d5 => ?_⟩
    rcases (show v5 = 0 ∨ v5 = 1 ∨ v5 = 2 ∨ v5 = 3 ∨ v5 = 4 by omega) with rfl | rfl | rfl | rfl | rfl
    all_goals
      try simp only [sSeq, sAsg, sRet, sIf, sDrop, sNext, sNever, dOp, dUn, dVar, dC, dTest, isBool, dAnd, dOr, dNot, dAndV, dOrV, dNotV, dIf, dCons, dNil, dTup, dLst, dLstM, datas, dCall, dCB, gI0, gI, gB0, g1I, gAdd, gEqD, gNeD, gIx, gIn, g1A, g2A, gInt, gLen, gTuple, gSum, gBest, dSl, dNoPart, dPart, dgName, dgTup, dgCons, dgNil, dgSub, gSetI, dIndexT, dChain, startD, List.map_cons, List.map_nil, List.length_cons, List.length_nil, List.replicate, List.append, List.cons_append, List.nil_append, List.getElem?_cons_zero, List.getElem?_cons_succ, List.set_cons_zero, List.set_cons_succ, Option.some.injEq, Dv.d.injEq, Dv.r.injEq, PyData.tuple.injEq, PyData.list.injEq, PyData.str.injEq, PyData.int.injEq, exists_eq_left', Option.map_some, Nat.zero_add, Nat.reduceAdd, Nat.reduceSub, true_and, and_true, exists_and_left, at0, at1, at2, at3, at4, eqv_int, shaped_int, eqv_pr, shaped_pr, bes, intsD, in4, flat4, flatI, Bool.not_eq_true', decide_eq_false_iff_not, not_true_eq_false, if_true, if_false, Bool.not_true, Bool.not_false, Bool.false_eq_true, Bool.true_eq_false, Bool.or_eq_false_iff,  shaped_tn, shaped_hd, shaped_r, decide_eq_true_eq, sizeLine_eq, Nat.reduceLeDiff, Int.reduceToNat, Int.reducePow, Int.reduceMul, Int.reduceAdd, Int.reduceSub, Int.reduceNeg, Int.reduceMod, setM_same, MO.lst.injEq, setM_setM, ix0, ix1, ix2, ix3, ix4, dPick, keyOf, dSlT, dTupRng, gAppend, dAppend, g2B, dM1, eqv_tn, eqv_tnl, shaped_l, dSlM, g1N, dIsi, tyD, gListD, gListM, gTupleM, sPar, dgPair, isT_it, isT_is, isT_ib, isT_ii, isT_tt, gInS, sTry, xCall, xSeq, xIf, xThen, xRaise, dIsE, dNum, dRep1, gAddT, isT_ss, isT_st, isT_ts, dLstRng, sAugI, g3A]
      try refine ⟨_, rfl, ?_⟩
      try rw [setM_setM]
      first | exact z _ q1 r1 o5 (by omega) hq1 (d5.mono (by omega)) | exact z _ q r1 o5 (by omega) hq (d5.mono (by omega)) | exact z _ q1 r o5 (by omega) hq1 (d5.mono (by omega)) | exact z _ q r o5 (by omega) hq (d5.mono (by omega))
theorem sc__law_runs_steps : FnScope ["runs", "arms", "one", "other", "found"] ["runs", "arms"] (defScope s__law_runs_steps) := ⟨rfl, rfl, rfl, by decide +kernel, rfl, by decide +kernel, by decide +kernel⟩
theorem ok__law_runs_steps (T : Tx K mg) : FnOk P w K mg base CX0 1 T.a__law_runs_steps T.fd__law_runs_steps ["runs", "arms"] (spD K F__law_runs_steps) := by
  refine Fun.okD T.F__law_runs_steps sc__law_runs_steps mo__law_runs_steps (fun ds m Q h => ?_) (fun cdv A outer s H E hr => ?_)
  · unfold F__law_runs_steps at h; obtain ⟨k, f, g, rfl, a, b, z⟩ := h; rfl
  · refine ⟨_, (dss_cons (ds_set (i := 2) sc__law_runs_steps.nd rfl (by first | exact Or.inl rfl | exact Or.inr rfl) (de_fdiv (de_add (dv 0) de_int) de_int))
      (dss_cons (ds_set (i := 3) sc__law_runs_steps.nd rfl (by first | exact Or.inl rfl | exact Or.inr rfl) (de_fdiv (dv 0) de_int))
      (dss_cons (ds_set (i := 4) sc__law_runs_steps.nd rfl (by first | exact Or.inl rfl | exact Or.inr rfl) (de_add (de_mul (dv 2) (de_ix (dv 1) de_int)) (de_fdiv (de_mul (dv 2) (de_sub (dv 2) de_int)) de_int)))
      (dss_one (ds_ret (de_add (de_add (dv 4) (de_mul (dv 3) (de_ix (dv 1) de_int))) (de_fdiv (de_mul (dv 3) (de_sub (dv 3) de_int)) de_int))))))), fun ds m Q h => ?_⟩
    obtain ⟨k, f, g, rfl, a, b, z⟩ := h
    obtain ⟨⟨f1, f2⟩, g1, g2⟩ := a
    try simp only [sSeq, sAsg, sRet, sIf, sDrop, sNext, sNever, dOp, dUn, dVar, dC, dTest, isBool, dAnd, dOr, dNot, dAndV, dOrV, dNotV, dIf, dCons, dNil, dTup, dLst, dLstM, datas, dCall, dCB, gI0, gI, gB0, g1I, gAdd, gEqD, gNeD, gIx, gIn, g1A, g2A, gInt, gLen, gTuple, gSum, gBest, dSl, dNoPart, dPart, dgName, dgTup, dgCons, dgNil, dgSub, gSetI, dIndexT, dChain, startD, List.map_cons, List.map_nil, List.length_cons, List.length_nil, List.replicate, List.append, List.cons_append, List.nil_append, List.getElem?_cons_zero, List.getElem?_cons_succ, List.set_cons_zero, List.set_cons_succ, Option.some.injEq, Dv.d.injEq, Dv.r.injEq, PyData.tuple.injEq, PyData.list.injEq, PyData.str.injEq, PyData.int.injEq, exists_eq_left', Option.map_some, Nat.zero_add, Nat.reduceAdd, Nat.reduceSub, true_and, and_true, exists_and_left, at0, at1, at2, at3, at4, eqv_int, shaped_int, eqv_pr, shaped_pr, bes, intsD, in4, flat4, flatI, Bool.not_eq_true', decide_eq_false_iff_not, not_true_eq_false, if_true, if_false, Bool.not_true, Bool.not_false, Bool.false_eq_true, Bool.true_eq_false, Bool.or_eq_false_iff,  shaped_tn, shaped_hd, shaped_r, decide_eq_true_eq, sizeLine_eq, Nat.reduceLeDiff, Int.reduceToNat, Int.reducePow, Int.reduceMul, Int.reduceAdd, Int.reduceSub, Int.reduceNeg, Int.reduceMod, setM_same, MO.lst.injEq, setM_setM, ix0, ix1, ix2, ix3, ix4, dPick, keyOf, dSlT, dTupRng, gAppend, dAppend, g2B, dM1, eqv_tn, eqv_tnl, shaped_l, dSlM, g1N, dIsi, tyD, gListD, gListM, gTupleM, sPar, dgPair, isT_it, isT_is, isT_ib, isT_ii, isT_tt, gInS, sTry, xCall, xSeq, xIf, xThen, xRaise, dIsE, dNum, dRep1, gAddT, isT_ss, isT_st, isT_ts]
    rw [← steps_eq] at z
    repeat (refine And.intro (by first | (show CPow _ _; unfold CPow; decide) | (show CMul _ _; unfold CMul; omega) | (show CDivB _ _; unfold CDivB; omega) | decide | omega | exact ⟨_, rfl⟩) ?_)
    exact z
theorem sc__law_runs : FnScope ["steps", "arms", "low", "high", "amid"] ["steps", "arms"] (defScope s__law_runs) := ⟨rfl, rfl, rfl, by decide +kernel, rfl, by decide +kernel, by decide +kernel⟩
theorem ok__law_runs (T : Tx K mg) : FnOk P w K mg base CX0 2 T.a__law_runs T.fd__law_runs ["steps", "arms"] (spD K F__law_runs) := by
  refine Fun.okD T.F__law_runs sc__law_runs mo__law_runs (fun ds m Q h => ?_) (fun cdv A outer s H E hr => ?_)
  · unfold F__law_runs at h; obtain ⟨o, f, g, rfl, a, b, z⟩ := h; rfl
  · refine ⟨_, (dss_cons (ds_set (i := 2) sc__law_runs.nd rfl (by first | exact Or.inl rfl | exact Or.inr rfl) de_int)
      (dss_cons (ds_set (i := 3) sc__law_runs.nd rfl (by first | exact Or.inl rfl | exact Or.inr rfl) de_int)
      (dss_cons (ds_while PassesOwn.never (dt_le (de_call mo__law_runs_steps ((ok__law_runs_steps T).mono (by decide : 1 ≤ 1)) hr (by rfl) T.m__law_runs_steps T.F__law_runs_steps.kp T.n__law_runs_steps (da_cons (dv 3) (da_cons (dv 1) da_nil))) (dv 0)) (dss_one (ds_set (i := 3) sc__law_runs.nd rfl (by first | exact Or.inl rfl | exact Or.inr rfl) (de_mul de_int (dv 3)))))
      (dss_cons (ds_while PassesOwn.never (dt_gt (de_sub (dv 3) (dv 2)) de_int) (dss_cons (ds_set (i := 4) sc__law_runs.nd rfl (by first | exact Or.inl rfl | exact Or.inr rfl) (de_fdiv (de_add (dv 2) (dv 3)) de_int))
      (dss_one (ds_if (dt_le (de_call mo__law_runs_steps ((ok__law_runs_steps T).mono (by decide : 1 ≤ 1)) hr (by rfl) T.m__law_runs_steps T.F__law_runs_steps.kp T.n__law_runs_steps (da_cons (dv 4) (da_cons (dv 1) da_nil))) (dv 0)) (dss_one (ds_set (i := 2) sc__law_runs.nd rfl (by first | exact Or.inl rfl | exact Or.inr rfl) (dv 4))) (dss_one (ds_set (i := 3) sc__law_runs.nd rfl (by first | exact Or.inl rfl | exact Or.inr rfl) (dv 4)))))))
      (dss_one (ds_ret (dv 2))))))), fun ds m Q h => ?_⟩
    obtain ⟨o, f, g, rfl, a, b, z⟩ := h
    obtain ⟨⟨f1, f2⟩, g1, g2⟩ := id a
    try simp only [sSeq, sAsg, sRet, sIf, sDrop, sNext, sNever, dOp, dUn, dVar, dC, dTest, isBool, dAnd, dOr, dNot, dAndV, dOrV, dNotV, dIf, dCons, dNil, dTup, dLst, dLstM, datas, dCall, dCB, gI0, gI, gB0, g1I, gAdd, gEqD, gNeD, gIx, gIn, g1A, g2A, gInt, gLen, gTuple, gSum, gBest, dSl, dNoPart, dPart, dgName, dgTup, dgCons, dgNil, dgSub, gSetI, dIndexT, dChain, startD, List.map_cons, List.map_nil, List.length_cons, List.length_nil, List.replicate, List.append, List.cons_append, List.nil_append, List.getElem?_cons_zero, List.getElem?_cons_succ, List.set_cons_zero, List.set_cons_succ, Option.some.injEq, Dv.d.injEq, Dv.r.injEq, PyData.tuple.injEq, PyData.list.injEq, PyData.str.injEq, PyData.int.injEq, exists_eq_left', Option.map_some, Nat.zero_add, Nat.reduceAdd, Nat.reduceSub, true_and, and_true, exists_and_left, at0, at1, at2, at3, at4, eqv_int, shaped_int, eqv_pr, shaped_pr, bes, intsD, in4, flat4, flatI, Bool.not_eq_true', decide_eq_false_iff_not, not_true_eq_false, if_true, if_false, Bool.not_true, Bool.not_false, Bool.false_eq_true, Bool.true_eq_false, Bool.or_eq_false_iff,  shaped_tn, shaped_hd, shaped_r, decide_eq_true_eq, sizeLine_eq, Nat.reduceLeDiff, Int.reduceToNat, Int.reducePow, Int.reduceMul, Int.reduceAdd, Int.reduceSub, Int.reduceNeg, Int.reduceMod, setM_same, MO.lst.injEq, setM_setM, ix0, ix1, ix2, ix3, ix4, dPick, keyOf, dSlT, dTupRng, gAppend, dAppend, g2B, dM1, eqv_tn, eqv_tnl, shaped_l, dSlM, g1N, dIsi, tyD, gListD, gListM, gTupleM, sPar, dgPair, isT_it, isT_is, isT_ib, isT_ii, isT_tt, gInS, sTry, xCall, xSeq, xIf, xThen, xRaise, dIsE, dNum, dRep1, gAddT, isT_ss, isT_st, isT_ts]
    unfold sWhile
    refine ⟨fun k δ m' => ∃ (hi : Int), δ = [some (I o), some (pr f g), some (I 0), some (I hi), none] ∧ m' = m ∧ k = (o + 2 - hi).toNat ∧ 1 ≤ hi ∧ hi < 2 ^ 60, ⟨_, 1, rfl, rfl, rfl, by decide, by decide⟩, ?_⟩
    rintro k δ m' ⟨hi, rfl, rfl, rfl, h2, h3⟩
    try simp only [sSeq, sAsg, sRet, sIf, sDrop, sNext, sNever, dOp, dUn, dVar, dC, dTest, isBool, dAnd, dOr, dNot, dAndV, dOrV, dNotV, dIf, dCons, dNil, dTup, dLst, dLstM, datas, dCall, dCB, gI0, gI, gB0, g1I, gAdd, gEqD, gNeD, gIx, gIn, g1A, g2A, gInt, gLen, gTuple, gSum, gBest, dSl, dNoPart, dPart, dgName, dgTup, dgCons, dgNil, dgSub, gSetI, dIndexT, dChain, startD, List.map_cons, List.map_nil, List.length_cons, List.length_nil, List.replicate, List.append, List.cons_append, List.nil_append, List.getElem?_cons_zero, List.getElem?_cons_succ, List.set_cons_zero, List.set_cons_succ, Option.some.injEq, Dv.d.injEq, Dv.r.injEq, PyData.tuple.injEq, PyData.list.injEq, PyData.str.injEq, PyData.int.injEq, exists_eq_left', Option.map_some, Nat.zero_add, Nat.reduceAdd, Nat.reduceSub, true_and, and_true, exists_and_left, at0, at1, at2, at3, at4, eqv_int, shaped_int, eqv_pr, shaped_pr, bes, intsD, in4, flat4, flatI, Bool.not_eq_true', decide_eq_false_iff_not, not_true_eq_false, if_true, if_false, Bool.not_true, Bool.not_false, Bool.false_eq_true, Bool.true_eq_false, Bool.or_eq_false_iff,  shaped_tn, shaped_hd, shaped_r, decide_eq_true_eq, sizeLine_eq, Nat.reduceLeDiff, Int.reduceToNat, Int.reducePow, Int.reduceMul, Int.reduceAdd, Int.reduceSub, Int.reduceNeg, Int.reduceMod, setM_same, MO.lst.injEq, setM_setM, ix0, ix1, ix2, ix3, ix4, dPick, keyOf, dSlT, dTupRng, gAppend, dAppend, g2B, dM1, eqv_tn, eqv_tnl, shaped_l, dSlM, g1N, dIsi, tyD, gListD, gListM, gTupleM, sPar, dgPair, isT_it, isT_is, isT_ib, isT_ii, isT_tt, gInS, sTry, xCall, xSeq, xIf, xThen, xRaise, dIsE, dNum, dRep1, gAddT, isT_ss, isT_st, isT_ts]
    refine ⟨hi, f, g, rfl, a, by omega, ?_⟩
    try simp only [sSeq, sAsg, sRet, sIf, sDrop, sNext, sNever, dOp, dUn, dVar, dC, dTest, isBool, dAnd, dOr, dNot, dAndV, dOrV, dNotV, dIf, dCons, dNil, dTup, dLst, dLstM, datas, dCall, dCB, gI0, gI, gB0, g1I, gAdd, gEqD, gNeD, gIx, gIn, g1A, g2A, gInt, gLen, gTuple, gSum, gBest, dSl, dNoPart, dPart, dgName, dgTup, dgCons, dgNil, dgSub, gSetI, dIndexT, dChain, startD, List.map_cons, List.map_nil, List.length_cons, List.length_nil, List.replicate, List.append, List.cons_append, List.nil_append, List.getElem?_cons_zero, List.getElem?_cons_succ, List.set_cons_zero, List.set_cons_succ, Option.some.injEq, Dv.d.injEq, Dv.r.injEq, PyData.tuple.injEq, PyData.list.injEq, PyData.str.injEq, PyData.int.injEq, exists_eq_left', Option.map_some, Nat.zero_add, Nat.reduceAdd, Nat.reduceSub, true_and, and_true, exists_and_left, at0, at1, at2, at3, at4, eqv_int, shaped_int, eqv_pr, shaped_pr, bes, intsD, in4, flat4, flatI, Bool.not_eq_true', decide_eq_false_iff_not, not_true_eq_false, if_true, if_false, Bool.not_true, Bool.not_false, Bool.false_eq_true, Bool.true_eq_false, Bool.or_eq_false_iff,  shaped_tn, shaped_hd, shaped_r, decide_eq_true_eq, sizeLine_eq, Nat.reduceLeDiff, Int.reduceToNat, Int.reducePow, Int.reduceMul, Int.reduceAdd, Int.reduceSub, Int.reduceNeg, Int.reduceMod, setM_same, MO.lst.injEq, setM_setM, ix0, ix1, ix2, ix3, ix4, dPick, keyOf, dSlT, dTupRng, gAppend, dAppend, g2B, dM1, eqv_tn, eqv_tnl, shaped_l, dSlM, g1N, dIsi, tyD, gListD, gListM, gTupleM, sPar, dgPair, isT_it, isT_is, isT_ib, isT_ii, isT_tt, gInS, sTry, xCall, xSeq, xIf, xThen, xRaise, dIsE, dNum, dRep1, gAddT, isT_ss, isT_st, isT_ts]
    have hb := bo_mono f1 g1 (show (0 : Int) ≤ 0 by decide) (show 0 ≤ hi by omega)
    rw [bo_zero] at hb
    by_cases c : bo f g hi ≤ o
    · rw [if_pos c]
      have h4 := run_small f1 g1 (by omega) c b.2
      refine ⟨fun δ' m2 => ∃ (hi' : Int), δ' = [some (I o), some (pr f g), some (I 0), some (I hi'), none] ∧ m2 = m' ∧ (o + 2 - hi').toNat < (o + 2 - hi).toNat ∧ 1 ≤ hi' ∧ hi' < 2 ^ 60, ?_, ?_⟩
      · rintro δ' m2 ⟨hi', rfl, rfl, g1, g2, g3⟩
        exact ⟨_, g1, hi', rfl, rfl, rfl, g2, g3⟩
      · exact ⟨by unfold CMul; omega, _, rfl, rfl, by omega, by omega, by omega⟩
    · rw [if_neg c]
      clear hb
      refine ⟨fun k δ m2 => ∃ (lo hi : Int) (am : Option Dv), δ = [some (I o), some (pr f g), some (I lo), some (I hi), am] ∧ m2 = m' ∧ k = (hi - lo).toNat ∧ 0 ≤ lo ∧ lo < hi ∧ hi < 2 ^ 60 ∧ bo f g lo ≤ o ∧ o < bo f g hi, ⟨_, 0, hi, none, rfl, rfl, rfl, by decide, by omega, h3, by rw [bo_zero]; omega, by omega⟩, ?_⟩
      rintro k δ m2 ⟨lo, hi, am, rfl, rfl, rfl, e1, e2, e3, e4, e5⟩
      try simp only [sSeq, sAsg, sRet, sIf, sDrop, sNext, sNever, dOp, dUn, dVar, dC, dTest, isBool, dAnd, dOr, dNot, dAndV, dOrV, dNotV, dIf, dCons, dNil, dTup, dLst, dLstM, datas, dCall, dCB, gI0, gI, gB0, g1I, gAdd, gEqD, gNeD, gIx, gIn, g1A, g2A, gInt, gLen, gTuple, gSum, gBest, dSl, dNoPart, dPart, dgName, dgTup, dgCons, dgNil, dgSub, gSetI, dIndexT, dChain, startD, List.map_cons, List.map_nil, List.length_cons, List.length_nil, List.replicate, List.append, List.cons_append, List.nil_append, List.getElem?_cons_zero, List.getElem?_cons_succ, List.set_cons_zero, List.set_cons_succ, Option.some.injEq, Dv.d.injEq, Dv.r.injEq, PyData.tuple.injEq, PyData.list.injEq, PyData.str.injEq, PyData.int.injEq, exists_eq_left', Option.map_some, Nat.zero_add, Nat.reduceAdd, Nat.reduceSub, true_and, and_true, exists_and_left, at0, at1, at2, at3, at4, eqv_int, shaped_int, eqv_pr, shaped_pr, bes, intsD, in4, flat4, flatI, Bool.not_eq_true', decide_eq_false_iff_not, not_true_eq_false, if_true, if_false, Bool.not_true, Bool.not_false, Bool.false_eq_true, Bool.true_eq_false, Bool.or_eq_false_iff,  shaped_tn, shaped_hd, shaped_r, decide_eq_true_eq, sizeLine_eq, Nat.reduceLeDiff, Int.reduceToNat, Int.reducePow, Int.reduceMul, Int.reduceAdd, Int.reduceSub, Int.reduceNeg, Int.reduceMod, setM_same, MO.lst.injEq, setM_setM, ix0, ix1, ix2, ix3, ix4, dPick, keyOf, dSlT, dTupRng, gAppend, dAppend, g2B, dM1, eqv_tn, eqv_tnl, shaped_l, dSlM, g1N, dIsi, tyD, gListD, gListM, gTupleM, sPar, dgPair, isT_it, isT_is, isT_ib, isT_ii, isT_tt, gInS, sTry, xCall, xSeq, xIf, xThen, xRaise, dIsE, dNum, dRep1, gAddT, isT_ss, isT_st, isT_ts]
      by_cases d : 1 < hi - lo
      · rw [if_pos d]
        refine ⟨fun δ' m3 => ∃ (lo' hi' : Int) (am : Option Dv), δ' = [some (I o), some (pr f g), some (I lo'), some (I hi'), am] ∧ m3 = m2 ∧ (hi' - lo').toNat < (hi - lo).toNat ∧ 0 ≤ lo' ∧ lo' < hi' ∧ hi' < 2 ^ 60 ∧ bo f g lo' ≤ o ∧ o < bo f g hi', ?_, ?_⟩
        · rintro δ' m3 ⟨lo', hi', am', rfl, rfl, q1, q2, q3, q4, q5, q6⟩
          exact ⟨_, q1, lo', hi', am', rfl, rfl, rfl, q2, q3, q4, q5, q6⟩
        · refine ⟨by unfold CDivB; decide, (lo + hi) / 2, f, g, rfl, a, by omega, ?_⟩
          try simp only [sSeq, sAsg, sRet, sIf, sDrop, sNext, sNever, dOp, dUn, dVar, dC, dTest, isBool, dAnd, dOr, dNot, dAndV, dOrV, dNotV, dIf, dCons, dNil, dTup, dLst, dLstM, datas, dCall, dCB, gI0, gI, gB0, g1I, gAdd, gEqD, gNeD, gIx, gIn, g1A, g2A, gInt, gLen, gTuple, gSum, gBest, dSl, dNoPart, dPart, dgName, dgTup, dgCons, dgNil, dgSub, gSetI, dIndexT, dChain, startD, List.map_cons, List.map_nil, List.length_cons, List.length_nil, List.replicate, List.append, List.cons_append, List.nil_append, List.getElem?_cons_zero, List.getElem?_cons_succ, List.set_cons_zero, List.set_cons_succ, Option.some.injEq, Dv.d.injEq, Dv.r.injEq, PyData.tuple.injEq, PyData.list.injEq, PyData.str.injEq, PyData.int.injEq, exists_eq_left', Option.map_some, Nat.zero_add, Nat.reduceAdd, Nat.reduceSub, true_and, and_true, exists_and_left, at0, at1, at2, at3, at4, eqv_int, shaped_int, eqv_pr, shaped_pr, bes, intsD, in4, flat4, flatI, Bool.not_eq_true', decide_eq_false_iff_not, not_true_eq_false, if_true, if_false, Bool.not_true, Bool.not_false, Bool.false_eq_true, Bool.true_eq_false, Bool.or_eq_false_iff,  shaped_tn, shaped_hd, shaped_r, decide_eq_true_eq, sizeLine_eq, Nat.reduceLeDiff, Int.reduceToNat, Int.reducePow, Int.reduceMul, Int.reduceAdd, Int.reduceSub, Int.reduceNeg, Int.reduceMod, setM_same, MO.lst.injEq, setM_setM, ix0, ix1, ix2, ix3, ix4, dPick, keyOf, dSlT, dTupRng, gAppend, dAppend, g2B, dM1, eqv_tn, eqv_tnl, shaped_l, dSlM, g1N, dIsi, tyD, gListD, gListM, gTupleM, sPar, dgPair, isT_it, isT_is, isT_ib, isT_ii, isT_tt, gInS, sTry, xCall, xSeq, xIf, xThen, xRaise, dIsE, dNum, dRep1, gAddT, isT_ss, isT_st, isT_ts]
          by_cases q : bo f g ((lo + hi) / 2) ≤ o
          · rw [if_pos q]
            first | exact ⟨_, _, _, rfl, rfl, by omega, by omega, by omega, by omega, q, e5⟩ | exact ⟨_, _, _, rfl, by omega, by omega, by omega, by omega, q, e5⟩
          · rw [if_neg q]
            first | exact ⟨_, _, _, rfl, rfl, by omega, by omega, by omega, by omega, e4, by omega⟩ | exact ⟨_, _, _, rfl, by omega, by omega, by omega, by omega, e4, by omega⟩
      · rw [if_neg d]
        have e : hi = lo + 1 := by omega
        subst e
        exact z lo e1 e4 e5
theorem sc__law_to_and_fro : FnScope ["many", "arm"] ["many", "arm"] (defScope s__law_to_and_fro) := ⟨rfl, rfl, rfl, by decide +kernel, rfl, by decide +kernel, by decide +kernel⟩
theorem ok__law_to_and_fro (T : Tx K mg) : FnOk P w K mg base CX0 1 T.a__law_to_and_fro T.fd__law_to_and_fro ["many", "arm"] (spD K F__law_to_and_fro) := by
  refine Fun.okD T.F__law_to_and_fro sc__law_to_and_fro mo__law_to_and_fro (fun ds m Q h => ?_) (fun cdv A outer s H E hr => ?_)
  · unfold F__law_to_and_fro at h; obtain ⟨n, a, rfl, l, z⟩ := h; rfl
  · refine ⟨_, (dss_one (ds_ret (de_ix (de_lst (da_cons (de_sub de_int (de_fdiv (dv 0) de_int)) (da_cons (de_add (dv 1) (de_fdiv (dv 0) de_int)) da_nil))) (de_mod (dv 0) de_int)))), fun ds m Q h => ?_⟩
    obtain ⟨n, a, rfl, l, z⟩ := h
    try simp only [sSeq, sAsg, sRet, sIf, sDrop, sNext, sNever, dOp, dUn, dVar, dC, dTest, isBool, dAnd, dOr, dNot, dAndV, dOrV, dNotV, dIf, dCons, dNil, dTup, dLst, dLstM, datas, dCall, dCB, gI0, gI, gB0, g1I, gAdd, gEqD, gNeD, gIx, gIn, g1A, g2A, gInt, gLen, gTuple, gSum, gBest, dSl, dNoPart, dPart, dgName, dgTup, dgCons, dgNil, dgSub, gSetI, dIndexT, dChain, startD, List.map_cons, List.map_nil, List.length_cons, List.length_nil, List.replicate, List.append, List.cons_append, List.nil_append, List.getElem?_cons_zero, List.getElem?_cons_succ, List.set_cons_zero, List.set_cons_succ, Option.some.injEq, Dv.d.injEq, Dv.r.injEq, PyData.tuple.injEq, PyData.list.injEq, PyData.str.injEq, PyData.int.injEq, exists_eq_left', Option.map_some, Nat.zero_add, Nat.reduceAdd, Nat.reduceSub, true_and, and_true, exists_and_left, at0, at1, at2, at3, at4, eqv_int, shaped_int, eqv_pr, shaped_pr, bes, intsD, in4, flat4, flatI, Bool.not_eq_true', decide_eq_false_iff_not, not_true_eq_false, if_true, if_false, Bool.not_true, Bool.not_false, Bool.false_eq_true, Bool.true_eq_false, Bool.or_eq_false_iff,  shaped_tn, shaped_hd, shaped_r, decide_eq_true_eq, sizeLine_eq, Nat.reduceLeDiff, Int.reduceToNat, Int.reducePow, Int.reduceMul, Int.reduceAdd, Int.reduceSub, Int.reduceNeg, Int.reduceMod, setM_same, MO.lst.injEq, setM_setM, ix0, ix1, ix2, ix3, ix4, dPick, keyOf, dSlT, dTupRng, gAppend, dAppend, g2B, dM1, eqv_tn, eqv_tnl, shaped_l, dSlM, g1N, dIsi, tyD, gListD, gListM, gTupleM, sPar, dgPair, isT_it, isT_is, isT_ib, isT_ii, isT_tt, gInS, sTry, xCall, xSeq, xIf, xThen, xRaise, dIsE, dNum, dRep1, gAddT, isT_ss, isT_st, isT_ts]
    refine ⟨by unfold CDivB; decide, by unfold CDivB; decide, by decide, _, at_taf, z⟩
theorem sc__law_turned : FnScope ["spiral", "place", "along", "up", "k"] ["spiral", "place"] (defScope s__law_turned) := ⟨rfl, rfl, rfl, by decide +kernel, rfl, by decide +kernel, by decide +kernel⟩
theorem ok__law_turned (T : Tx K mg) : FnOk P w K mg base CX0 1 T.a__law_turned T.fd__law_turned ["spiral", "place"] (spD K F__law_turned) := by
  refine Fun.okD T.F__law_turned sc__law_turned mo__law_turned (fun ds m Q h => ?_) (fun cdv A outer s H E hr => ?_)
  · unfold F__law_turned at h; obtain ⟨s, q, r, u, v, rfl, l, z⟩ := h; rfl
  · refine ⟨_, (dss_cons (ds_asg (dv 1) (dg_tup (n := 2) rfl (dgs_cons (dg_name (i := 2) sc__law_turned.nd rfl (by first | exact Or.inl rfl | exact Or.inr rfl)) (dgs_cons (dg_name (i := 3) sc__law_turned.nd rfl (by first | exact Or.inl rfl | exact Or.inr rfl)) dgs_nil))))
      (dss_cons (ds_if (dt_eq hr (de_ix (dv 0) de_int) de_str) (dss_one (ds_set (i := 3) sc__law_turned.nd rfl (by first | exact Or.inl rfl | exact Or.inr rfl) (de_sub de_int (dv 3)))) dss_nil)
      (dss_cons (ds_for PassesOwn.never rfl (di_range1 (by rfl) T.b_range (da_cons (de_sindex de_str (de_ix (dv 0) de_int)) da_nil)) (dg_name (i := 4) sc__law_turned.nd rfl (by first | exact Or.inl rfl | exact Or.inr rfl)) (dss_one (ds_par (i := 2) (j := 3) rfl sc__law_turned.nd rfl rfl (by decide) rfl rfl (da_cons (de_sub de_int (dv 3)) (da_cons (dv 2) da_nil)) (by rfl))))
      (dss_one (ds_ret (de_tup (da_cons (dv 2) (da_cons (dv 3) da_nil)))))))), fun ds m Q h => ?_⟩
    obtain ⟨s, q, r, u, v, rfl, l, z⟩ := h
    try simp only [sSeq, sAsg, sRet, sIf, sDrop, sNext, sNever, dOp, dUn, dVar, dC, dTest, isBool, dAnd, dOr, dNot, dAndV, dOrV, dNotV, dIf, dCons, dNil, dTup, dLst, dLstM, datas, dCall, dCB, gI0, gI, gB0, g1I, gAdd, gEqD, gNeD, gIx, gIn, g1A, g2A, gInt, gLen, gTuple, gSum, gBest, dSl, dNoPart, dPart, dgName, dgTup, dgCons, dgNil, dgSub, gSetI, dIndexT, dChain, startD, List.map_cons, List.map_nil, List.length_cons, List.length_nil, List.replicate, List.append, List.cons_append, List.nil_append, List.getElem?_cons_zero, List.getElem?_cons_succ, List.set_cons_zero, List.set_cons_succ, Option.some.injEq, Dv.d.injEq, Dv.r.injEq, PyData.tuple.injEq, PyData.list.injEq, PyData.str.injEq, PyData.int.injEq, exists_eq_left', Option.map_some, Nat.zero_add, Nat.reduceAdd, Nat.reduceSub, true_and, and_true, exists_and_left, at0, at1, at2, at3, at4, eqv_int, shaped_int, eqv_pr, shaped_pr, bes, intsD, in4, flat4, flatI, Bool.not_eq_true', decide_eq_false_iff_not, not_true_eq_false, if_true, if_false, Bool.not_true, Bool.not_false, Bool.false_eq_true, Bool.true_eq_false, Bool.or_eq_false_iff,  shaped_tn, shaped_hd, shaped_r, decide_eq_true_eq, sizeLine_eq, Nat.reduceLeDiff, Int.reduceToNat, Int.reducePow, Int.reduceMul, Int.reduceAdd, Int.reduceSub, Int.reduceNeg, Int.reduceMod, setM_same, MO.lst.injEq, setM_setM, ix0, ix1, ix2, ix3, ix4, dPick, keyOf, dSlT, dTupRng, gAppend, dAppend, g2B, dM1, eqv_tn, eqv_tnl, shaped_l, dSlM, g1N, dIsi, tyD, gListD, gListM, gTupleM, sPar, dgPair, isT_it, isT_is, isT_ib, isT_ii, isT_tt, gInS, sTry, xCall, xSeq, xIf, xThen, xRaise, dIsE, dNum, dRep1, gAddT, isT_ss, isT_st, isT_ts]
    cases r
    · simp only [Bool.false_eq_true, if_true, if_false]
      refine for_rng q (fun R hR => ?_) (fun i δ m' => (∃ st : Option Dv, δ = [some (spi s q false), some (pr u v), some (I (rotL i u v).1), some (I (rotL i u v).2), st]) ∧ m' = m) ⟨⟨_, rfl⟩, rfl⟩ ?_ ?_
      · simp only [dRng1, sSeq, sAsg, sRet, sIf, sDrop, sNext, sNever, dOp, dUn, dVar, dC, dTest, isBool, dAnd, dOr, dNot, dAndV, dOrV, dNotV, dIf, dCons, dNil, dTup, dLst, dLstM, datas, dCall, dCB, gI0, gI, gB0, g1I, gAdd, gEqD, gNeD, gIx, gIn, g1A, g2A, gInt, gLen, gTuple, gSum, gBest, dSl, dNoPart, dPart, dgName, dgTup, dgCons, dgNil, dgSub, gSetI, dIndexT, dChain, startD, List.map_cons, List.map_nil, List.length_cons, List.length_nil, List.replicate, List.append, List.cons_append, List.nil_append, List.getElem?_cons_zero, List.getElem?_cons_succ, List.set_cons_zero, List.set_cons_succ, Option.some.injEq, Dv.d.injEq, Dv.r.injEq, PyData.tuple.injEq, PyData.list.injEq, PyData.str.injEq, PyData.int.injEq, exists_eq_left', Option.map_some, Nat.zero_add, Nat.reduceAdd, Nat.reduceSub, true_and, and_true, exists_and_left, at0, at1, at2, at3, at4, eqv_int, shaped_int, eqv_pr, shaped_pr, bes, intsD, in4, flat4, flatI, Bool.not_eq_true', decide_eq_false_iff_not, not_true_eq_false, if_true, if_false, Bool.not_true, Bool.not_false, Bool.false_eq_true, Bool.true_eq_false, Bool.or_eq_false_iff,  shaped_tn, shaped_hd, shaped_r, decide_eq_true_eq, sizeLine_eq, Nat.reduceLeDiff, Int.reduceToNat, Int.reducePow, Int.reduceMul, Int.reduceAdd, Int.reduceSub, Int.reduceNeg, Int.reduceMod, setM_same, MO.lst.injEq, setM_setM, ix0, ix1, ix2, ix3, ix4, dPick, keyOf, dSlT, dTupRng, gAppend, dAppend, g2B, dM1, eqv_tn, eqv_tnl, shaped_l, dSlM, g1N, dIsi, tyD, gListD, gListM, gTupleM, sPar, dgPair, isT_it, isT_is, isT_ib, isT_ii, isT_tt, gInS, sTry, xCall, xSeq, xIf, xThen, xRaise, dIsE, dNum, dRep1, gAddT, isT_ss, isT_st, isT_ts]
        refine ⟨⟨_, rfl⟩, gs_hd l ⟨_, rfl, by omega, ?_⟩⟩
        rw [Int.toNat_natCast]
        exact hR
      · rintro i δ m' hi ⟨⟨st, rfl⟩, rfl⟩
        try simp only [sSeq, sAsg, sRet, sIf, sDrop, sNext, sNever, dOp, dUn, dVar, dC, dTest, isBool, dAnd, dOr, dNot, dAndV, dOrV, dNotV, dIf, dCons, dNil, dTup, dLst, dLstM, datas, dCall, dCB, gI0, gI, gB0, g1I, gAdd, gEqD, gNeD, gIx, gIn, g1A, g2A, gInt, gLen, gTuple, gSum, gBest, dSl, dNoPart, dPart, dgName, dgTup, dgCons, dgNil, dgSub, gSetI, dIndexT, dChain, startD, List.map_cons, List.map_nil, List.length_cons, List.length_nil, List.replicate, List.append, List.cons_append, List.nil_append, List.getElem?_cons_zero, List.getElem?_cons_succ, List.set_cons_zero, List.set_cons_succ, Option.some.injEq, Dv.d.injEq, Dv.r.injEq, PyData.tuple.injEq, PyData.list.injEq, PyData.str.injEq, PyData.int.injEq, exists_eq_left', Option.map_some, Nat.zero_add, Nat.reduceAdd, Nat.reduceSub, true_and, and_true, exists_and_left, at0, at1, at2, at3, at4, eqv_int, shaped_int, eqv_pr, shaped_pr, bes, intsD, in4, flat4, flatI, Bool.not_eq_true', decide_eq_false_iff_not, not_true_eq_false, if_true, if_false, Bool.not_true, Bool.not_false, Bool.false_eq_true, Bool.true_eq_false, Bool.or_eq_false_iff,  shaped_tn, shaped_hd, shaped_r, decide_eq_true_eq, sizeLine_eq, Nat.reduceLeDiff, Int.reduceToNat, Int.reducePow, Int.reduceMul, Int.reduceAdd, Int.reduceSub, Int.reduceNeg, Int.reduceMod, setM_same, MO.lst.injEq, setM_setM, ix0, ix1, ix2, ix3, ix4, dPick, keyOf, dSlT, dTupRng, gAppend, dAppend, g2B, dM1, eqv_tn, eqv_tnl, shaped_l, dSlM, g1N, dIsi, tyD, gListD, gListM, gTupleM, sPar, dgPair, isT_it, isT_is, isT_ib, isT_ii, isT_tt, gInS, sTry, xCall, xSeq, xIf, xThen, xRaise, dIsE, dNum, dRep1, gAddT, isT_ss, isT_st, isT_ts]
        exact ⟨_, _, rfl, _, rfl⟩
      · rintro δ m' ⟨⟨st, rfl⟩, rfl⟩
        try simp only [sSeq, sAsg, sRet, sIf, sDrop, sNext, sNever, dOp, dUn, dVar, dC, dTest, isBool, dAnd, dOr, dNot, dAndV, dOrV, dNotV, dIf, dCons, dNil, dTup, dLst, dLstM, datas, dCall, dCB, gI0, gI, gB0, g1I, gAdd, gEqD, gNeD, gIx, gIn, g1A, g2A, gInt, gLen, gTuple, gSum, gBest, dSl, dNoPart, dPart, dgName, dgTup, dgCons, dgNil, dgSub, gSetI, dIndexT, dChain, startD, List.map_cons, List.map_nil, List.length_cons, List.length_nil, List.replicate, List.append, List.cons_append, List.nil_append, List.getElem?_cons_zero, List.getElem?_cons_succ, List.set_cons_zero, List.set_cons_succ, Option.some.injEq, Dv.d.injEq, Dv.r.injEq, PyData.tuple.injEq, PyData.list.injEq, PyData.str.injEq, PyData.int.injEq, exists_eq_left', Option.map_some, Nat.zero_add, Nat.reduceAdd, Nat.reduceSub, true_and, and_true, exists_and_left, at0, at1, at2, at3, at4, eqv_int, shaped_int, eqv_pr, shaped_pr, bes, intsD, in4, flat4, flatI, Bool.not_eq_true', decide_eq_false_iff_not, not_true_eq_false, if_true, if_false, Bool.not_true, Bool.not_false, Bool.false_eq_true, Bool.true_eq_false, Bool.or_eq_false_iff,  shaped_tn, shaped_hd, shaped_r, decide_eq_true_eq, sizeLine_eq, Nat.reduceLeDiff, Int.reduceToNat, Int.reducePow, Int.reduceMul, Int.reduceAdd, Int.reduceSub, Int.reduceNeg, Int.reduceMod, setM_same, MO.lst.injEq, setM_setM, ix0, ix1, ix2, ix3, ix4, dPick, keyOf, dSlT, dTupRng, gAppend, dAppend, g2B, dM1, eqv_tn, eqv_tnl, shaped_l, dSlM, g1N, dIsi, tyD, gListD, gListM, gTupleM, sPar, dgPair, isT_it, isT_is, isT_ib, isT_ii, isT_tt, gInS, sTry, xCall, xSeq, xIf, xThen, xRaise, dIsE, dNum, dRep1, gAddT, isT_ss, isT_st, isT_ts]
        obtain ⟨e1, e2⟩ := rot_fp l false u v
        simp only [Bool.false_eq_true, if_true, if_false] at e1 e2
        rw [e1, e2]
        exact z
    · simp only [Bool.false_eq_true, if_true, if_false]
      refine for_rng q (fun R hR => ?_) (fun i δ m' => (∃ st : Option Dv, δ = [some (spi s q true), some (pr u v), some (I (rotL i u (0 - v)).1), some (I (rotL i u (0 - v)).2), st]) ∧ m' = m) ⟨⟨_, rfl⟩, rfl⟩ ?_ ?_
      · simp only [dRng1, sSeq, sAsg, sRet, sIf, sDrop, sNext, sNever, dOp, dUn, dVar, dC, dTest, isBool, dAnd, dOr, dNot, dAndV, dOrV, dNotV, dIf, dCons, dNil, dTup, dLst, dLstM, datas, dCall, dCB, gI0, gI, gB0, g1I, gAdd, gEqD, gNeD, gIx, gIn, g1A, g2A, gInt, gLen, gTuple, gSum, gBest, dSl, dNoPart, dPart, dgName, dgTup, dgCons, dgNil, dgSub, gSetI, dIndexT, dChain, startD, List.map_cons, List.map_nil, List.length_cons, List.length_nil, List.replicate, List.append, List.cons_append, List.nil_append, List.getElem?_cons_zero, List.getElem?_cons_succ, List.set_cons_zero, List.set_cons_succ, Option.some.injEq, Dv.d.injEq, Dv.r.injEq, PyData.tuple.injEq, PyData.list.injEq, PyData.str.injEq, PyData.int.injEq, exists_eq_left', Option.map_some, Nat.zero_add, Nat.reduceAdd, Nat.reduceSub, true_and, and_true, exists_and_left, at0, at1, at2, at3, at4, eqv_int, shaped_int, eqv_pr, shaped_pr, bes, intsD, in4, flat4, flatI, Bool.not_eq_true', decide_eq_false_iff_not, not_true_eq_false, if_true, if_false, Bool.not_true, Bool.not_false, Bool.false_eq_true, Bool.true_eq_false, Bool.or_eq_false_iff,  shaped_tn, shaped_hd, shaped_r, decide_eq_true_eq, sizeLine_eq, Nat.reduceLeDiff, Int.reduceToNat, Int.reducePow, Int.reduceMul, Int.reduceAdd, Int.reduceSub, Int.reduceNeg, Int.reduceMod, setM_same, MO.lst.injEq, setM_setM, ix0, ix1, ix2, ix3, ix4, dPick, keyOf, dSlT, dTupRng, gAppend, dAppend, g2B, dM1, eqv_tn, eqv_tnl, shaped_l, dSlM, g1N, dIsi, tyD, gListD, gListM, gTupleM, sPar, dgPair, isT_it, isT_is, isT_ib, isT_ii, isT_tt, gInS, sTry, xCall, xSeq, xIf, xThen, xRaise, dIsE, dNum, dRep1, gAddT, isT_ss, isT_st, isT_ts]
        refine ⟨⟨_, rfl⟩, gs_hd l ⟨_, rfl, by omega, ?_⟩⟩
        rw [Int.toNat_natCast]
        exact hR
      · rintro i δ m' hi ⟨⟨st, rfl⟩, rfl⟩
        try simp only [sSeq, sAsg, sRet, sIf, sDrop, sNext, sNever, dOp, dUn, dVar, dC, dTest, isBool, dAnd, dOr, dNot, dAndV, dOrV, dNotV, dIf, dCons, dNil, dTup, dLst, dLstM, datas, dCall, dCB, gI0, gI, gB0, g1I, gAdd, gEqD, gNeD, gIx, gIn, g1A, g2A, gInt, gLen, gTuple, gSum, gBest, dSl, dNoPart, dPart, dgName, dgTup, dgCons, dgNil, dgSub, gSetI, dIndexT, dChain, startD, List.map_cons, List.map_nil, List.length_cons, List.length_nil, List.replicate, List.append, List.cons_append, List.nil_append, List.getElem?_cons_zero, List.getElem?_cons_succ, List.set_cons_zero, List.set_cons_succ, Option.some.injEq, Dv.d.injEq, Dv.r.injEq, PyData.tuple.injEq, PyData.list.injEq, PyData.str.injEq, PyData.int.injEq, exists_eq_left', Option.map_some, Nat.zero_add, Nat.reduceAdd, Nat.reduceSub, true_and, and_true, exists_and_left, at0, at1, at2, at3, at4, eqv_int, shaped_int, eqv_pr, shaped_pr, bes, intsD, in4, flat4, flatI, Bool.not_eq_true', decide_eq_false_iff_not, not_true_eq_false, if_true, if_false, Bool.not_true, Bool.not_false, Bool.false_eq_true, Bool.true_eq_false, Bool.or_eq_false_iff,  shaped_tn, shaped_hd, shaped_r, decide_eq_true_eq, sizeLine_eq, Nat.reduceLeDiff, Int.reduceToNat, Int.reducePow, Int.reduceMul, Int.reduceAdd, Int.reduceSub, Int.reduceNeg, Int.reduceMod, setM_same, MO.lst.injEq, setM_setM, ix0, ix1, ix2, ix3, ix4, dPick, keyOf, dSlT, dTupRng, gAppend, dAppend, g2B, dM1, eqv_tn, eqv_tnl, shaped_l, dSlM, g1N, dIsi, tyD, gListD, gListM, gTupleM, sPar, dgPair, isT_it, isT_is, isT_ib, isT_ii, isT_tt, gInS, sTry, xCall, xSeq, xIf, xThen, xRaise, dIsE, dNum, dRep1, gAddT, isT_ss, isT_st, isT_ts]
        exact ⟨_, _, rfl, _, rfl⟩
      · rintro δ m' ⟨⟨st, rfl⟩, rfl⟩
        try simp only [sSeq, sAsg, sRet, sIf, sDrop, sNext, sNever, dOp, dUn, dVar, dC, dTest, isBool, dAnd, dOr, dNot, dAndV, dOrV, dNotV, dIf, dCons, dNil, dTup, dLst, dLstM, datas, dCall, dCB, gI0, gI, gB0, g1I, gAdd, gEqD, gNeD, gIx, gIn, g1A, g2A, gInt, gLen, gTuple, gSum, gBest, dSl, dNoPart, dPart, dgName, dgTup, dgCons, dgNil, dgSub, gSetI, dIndexT, dChain, startD, List.map_cons, List.map_nil, List.length_cons, List.length_nil, List.replicate, List.append, List.cons_append, List.nil_append, List.getElem?_cons_zero, List.getElem?_cons_succ, List.set_cons_zero, List.set_cons_succ, Option.some.injEq, Dv.d.injEq, Dv.r.injEq, PyData.tuple.injEq, PyData.list.injEq, PyData.str.injEq, PyData.int.injEq, exists_eq_left', Option.map_some, Nat.zero_add, Nat.reduceAdd, Nat.reduceSub, true_and, and_true, exists_and_left, at0, at1, at2, at3, at4, eqv_int, shaped_int, eqv_pr, shaped_pr, bes, intsD, in4, flat4, flatI, Bool.not_eq_true', decide_eq_false_iff_not, not_true_eq_false, if_true, if_false, Bool.not_true, Bool.not_false, Bool.false_eq_true, Bool.true_eq_false, Bool.or_eq_false_iff,  shaped_tn, shaped_hd, shaped_r, decide_eq_true_eq, sizeLine_eq, Nat.reduceLeDiff, Int.reduceToNat, Int.reducePow, Int.reduceMul, Int.reduceAdd, Int.reduceSub, Int.reduceNeg, Int.reduceMod, setM_same, MO.lst.injEq, setM_setM, ix0, ix1, ix2, ix3, ix4, dPick, keyOf, dSlT, dTupRng, gAppend, dAppend, g2B, dM1, eqv_tn, eqv_tnl, shaped_l, dSlM, g1N, dIsi, tyD, gListD, gListM, gTupleM, sPar, dgPair, isT_it, isT_is, isT_ib, isT_ii, isT_tt, gInS, sTry, xCall, xSeq, xIf, xThen, xRaise, dIsE, dNum, dRep1, gAddT, isT_ss, isT_st, isT_ts]
        obtain ⟨e1, e2⟩ := rot_fp l true u v
        simp only [Bool.false_eq_true, if_true, if_false] at e1 e2
        rw [e1, e2]
        exact z
theorem sc__law_place : FnScope ["spiral", "arms", "number", "steps", "runs", "left", "along", "up"] ["spiral", "arms", "number"] (defScope s__law_place) := ⟨rfl, rfl, rfl, by decide +kernel, rfl, by decide +kernel, by decide +kernel⟩
theorem ok__law_place (T : Tx K mg) : FnOk P w K mg base CX0 3 T.a__law_place T.fd__law_place ["spiral", "arms", "number"] (spD K F__law_place) := by
  refine Fun.okD T.F__law_place sc__law_place mo__law_place (fun ds m Q h => ?_) (fun cdv A outer s H E hr => ?_)
  · unfold F__law_place at h; obtain ⟨s, q, r, f, g, n, rfl, l, a, b, z⟩ := h; rfl
  · refine ⟨_, (dss_cons (ds_set (i := 3) sc__law_place.nd rfl (by first | exact Or.inl rfl | exact Or.inr rfl) (de_sub (dv 2) (de_ix (dv 0) de_int)))
      (dss_cons (ds_set (i := 4) sc__law_place.nd rfl (by first | exact Or.inl rfl | exact Or.inr rfl) (de_call mo__law_runs ((ok__law_runs T).mono (by decide : 2 ≤ 2)) hr (by rfl) T.m__law_runs T.F__law_runs.kp T.n__law_runs (da_cons (dv 3) (da_cons (dv 1) da_nil))))
      (dss_cons (ds_set (i := 5) sc__law_place.nd rfl (by first | exact Or.inl rfl | exact Or.inr rfl) (de_sub (dv 3) (de_call mo__law_runs_steps ((ok__law_runs_steps T).mono (by decide : 1 ≤ 2)) hr (by rfl) T.m__law_runs_steps T.F__law_runs_steps.kp T.n__law_runs_steps (da_cons (dv 4) (da_cons (dv 1) da_nil)))))
      (dss_cons (ds_set (i := 6) sc__law_place.nd rfl (by first | exact Or.inl rfl | exact Or.inr rfl) (de_add (de_call mo__law_to_and_fro ((ok__law_to_and_fro T).mono (by decide : 1 ≤ 2)) hr (by rfl) T.m__law_to_and_fro T.F__law_to_and_fro.kp T.n__law_to_and_fro (da_cons (de_fdiv (de_add (dv 4) de_int) de_int) (da_cons (de_ix (dv 1) de_int) da_nil))) (de_mul (de_ix (de_lst (da_cons de_int (da_cons de_int (da_cons (de_neg de_int) (da_cons de_int da_nil))))) (de_mod (dv 4) de_int)) (dv 5))))
      (dss_cons (ds_set (i := 7) sc__law_place.nd rfl (by first | exact Or.inl rfl | exact Or.inr rfl) (de_add (de_call mo__law_to_and_fro ((ok__law_to_and_fro T).mono (by decide : 1 ≤ 2)) hr (by rfl) T.m__law_to_and_fro T.F__law_to_and_fro.kp T.n__law_to_and_fro (da_cons (de_fdiv (dv 4) de_int) (da_cons (de_ix (dv 1) de_int) da_nil))) (de_mul (de_ix (de_lst (da_cons de_int (da_cons de_int (da_cons de_int (da_cons (de_neg de_int) da_nil))))) (de_mod (dv 4) de_int)) (dv 5))))
      (dss_one (ds_ret (de_call mo__law_turned ((ok__law_turned T).mono (by decide : 1 ≤ 2)) hr (by rfl) T.m__law_turned T.F__law_turned.kp T.n__law_turned (da_cons (dv 0) (da_cons (de_tup (da_cons (dv 6) (da_cons (dv 7) da_nil))) da_nil)))))))))), fun ds m Q h => ?_⟩
    obtain ⟨s, q, r, f, g, n, rfl, l, a, b, z⟩ := h
    try simp only [sSeq, sAsg, sRet, sIf, sDrop, sNext, sNever, dOp, dUn, dVar, dC, dTest, isBool, dAnd, dOr, dNot, dAndV, dOrV, dNotV, dIf, dCons, dNil, dTup, dLst, dLstM, datas, dCall, dCB, gI0, gI, gB0, g1I, gAdd, gEqD, gNeD, gIx, gIn, g1A, g2A, gInt, gLen, gTuple, gSum, gBest, dSl, dNoPart, dPart, dgName, dgTup, dgCons, dgNil, dgSub, gSetI, dIndexT, dChain, startD, List.map_cons, List.map_nil, List.length_cons, List.length_nil, List.replicate, List.append, List.cons_append, List.nil_append, List.getElem?_cons_zero, List.getElem?_cons_succ, List.set_cons_zero, List.set_cons_succ, Option.some.injEq, Dv.d.injEq, Dv.r.injEq, PyData.tuple.injEq, PyData.list.injEq, PyData.str.injEq, PyData.int.injEq, exists_eq_left', Option.map_some, Nat.zero_add, Nat.reduceAdd, Nat.reduceSub, true_and, and_true, exists_and_left, at0, at1, at2, at3, at4, eqv_int, shaped_int, eqv_pr, shaped_pr, bes, intsD, in4, flat4, flatI, Bool.not_eq_true', decide_eq_false_iff_not, not_true_eq_false, if_true, if_false, Bool.not_true, Bool.not_false, Bool.false_eq_true, Bool.true_eq_false, Bool.or_eq_false_iff,  shaped_tn, shaped_hd, shaped_r, decide_eq_true_eq, sizeLine_eq, Nat.reduceLeDiff, Int.reduceToNat, Int.reducePow, Int.reduceMul, Int.reduceAdd, Int.reduceSub, Int.reduceNeg, Int.reduceMod, setM_same, MO.lst.injEq, setM_setM, ix0, ix1, ix2, ix3, ix4, dPick, keyOf, dSlT, dTupRng, gAppend, dAppend, g2B, dM1, eqv_tn, eqv_tnl, shaped_l, dSlM, g1N, dIsi, tyD, gListD, gListM, gTupleM, sPar, dgPair, isT_it, isT_is, isT_ib, isT_ii, isT_tt, gInS, sTry, xCall, xSeq, xIf, xThen, xRaise, dIsE, dNum, dRep1, gAddT, isT_ss, isT_st, isT_ts]
    refine ⟨n - s, f, g, rfl, a, by omega, fun k k0 k1 k2 => ?_⟩
    have ks := run_small a.1.1 a.2.1 k0 k1 b.2
    try simp only [sSeq, sAsg, sRet, sIf, sDrop, sNext, sNever, dOp, dUn, dVar, dC, dTest, isBool, dAnd, dOr, dNot, dAndV, dOrV, dNotV, dIf, dCons, dNil, dTup, dLst, dLstM, datas, dCall, dCB, gI0, gI, gB0, g1I, gAdd, gEqD, gNeD, gIx, gIn, g1A, g2A, gInt, gLen, gTuple, gSum, gBest, dSl, dNoPart, dPart, dgName, dgTup, dgCons, dgNil, dgSub, gSetI, dIndexT, dChain, startD, List.map_cons, List.map_nil, List.length_cons, List.length_nil, List.replicate, List.append, List.cons_append, List.nil_append, List.getElem?_cons_zero, List.getElem?_cons_succ, List.set_cons_zero, List.set_cons_succ, Option.some.injEq, Dv.d.injEq, Dv.r.injEq, PyData.tuple.injEq, PyData.list.injEq, PyData.str.injEq, PyData.int.injEq, exists_eq_left', Option.map_some, Nat.zero_add, Nat.reduceAdd, Nat.reduceSub, true_and, and_true, exists_and_left, at0, at1, at2, at3, at4, eqv_int, shaped_int, eqv_pr, shaped_pr, bes, intsD, in4, flat4, flatI, Bool.not_eq_true', decide_eq_false_iff_not, not_true_eq_false, if_true, if_false, Bool.not_true, Bool.not_false, Bool.false_eq_true, Bool.true_eq_false, Bool.or_eq_false_iff,  shaped_tn, shaped_hd, shaped_r, decide_eq_true_eq, sizeLine_eq, Nat.reduceLeDiff, Int.reduceToNat, Int.reducePow, Int.reduceMul, Int.reduceAdd, Int.reduceSub, Int.reduceNeg, Int.reduceMod, setM_same, MO.lst.injEq, setM_setM, ix0, ix1, ix2, ix3, ix4, dPick, keyOf, dSlT, dTupRng, gAppend, dAppend, g2B, dM1, eqv_tn, eqv_tnl, shaped_l, dSlM, g1N, dIsi, tyD, gListD, gListM, gTupleM, sPar, dgPair, isT_it, isT_is, isT_ib, isT_ii, isT_tt, gInS, sTry, xCall, xSeq, xIf, xThen, xRaise, dIsE, dNum, dRep1, gAddT, isT_ss, isT_st, isT_ts]
    refine ⟨k, f, g, rfl, a, by omega, ?_⟩
    try simp only [sSeq, sAsg, sRet, sIf, sDrop, sNext, sNever, dOp, dUn, dVar, dC, dTest, isBool, dAnd, dOr, dNot, dAndV, dOrV, dNotV, dIf, dCons, dNil, dTup, dLst, dLstM, datas, dCall, dCB, gI0, gI, gB0, g1I, gAdd, gEqD, gNeD, gIx, gIn, g1A, g2A, gInt, gLen, gTuple, gSum, gBest, dSl, dNoPart, dPart, dgName, dgTup, dgCons, dgNil, dgSub, gSetI, dIndexT, dChain, startD, List.map_cons, List.map_nil, List.length_cons, List.length_nil, List.replicate, List.append, List.cons_append, List.nil_append, List.getElem?_cons_zero, List.getElem?_cons_succ, List.set_cons_zero, List.set_cons_succ, Option.some.injEq, Dv.d.injEq, Dv.r.injEq, PyData.tuple.injEq, PyData.list.injEq, PyData.str.injEq, PyData.int.injEq, exists_eq_left', Option.map_some, Nat.zero_add, Nat.reduceAdd, Nat.reduceSub, true_and, and_true, exists_and_left, at0, at1, at2, at3, at4, eqv_int, shaped_int, eqv_pr, shaped_pr, bes, intsD, in4, flat4, flatI, Bool.not_eq_true', decide_eq_false_iff_not, not_true_eq_false, if_true, if_false, Bool.not_true, Bool.not_false, Bool.false_eq_true, Bool.true_eq_false, Bool.or_eq_false_iff,  shaped_tn, shaped_hd, shaped_r, decide_eq_true_eq, sizeLine_eq, Nat.reduceLeDiff, Int.reduceToNat, Int.reducePow, Int.reduceMul, Int.reduceAdd, Int.reduceSub, Int.reduceNeg, Int.reduceMod, setM_same, MO.lst.injEq, setM_setM, ix0, ix1, ix2, ix3, ix4, dPick, keyOf, dSlT, dTupRng, gAppend, dAppend, g2B, dM1, eqv_tn, eqv_tnl, shaped_l, dSlM, g1N, dIsi, tyD, gListD, gListM, gTupleM, sPar, dgPair, isT_it, isT_is, isT_ib, isT_ii, isT_tt, gInS, sTry, xCall, xSeq, xIf, xThen, xRaise, dIsE, dNum, dRep1, gAddT, isT_ss, isT_st, isT_ts]
    rw [bo_step] at k2
    have hx := sxc k
    have hy := syc k
    refine ⟨by unfold CDivB; decide, _, f, rfl, by omega, ?_⟩
    try simp only [sSeq, sAsg, sRet, sIf, sDrop, sNext, sNever, dOp, dUn, dVar, dC, dTest, isBool, dAnd, dOr, dNot, dAndV, dOrV, dNotV, dIf, dCons, dNil, dTup, dLst, dLstM, datas, dCall, dCB, gI0, gI, gB0, g1I, gAdd, gEqD, gNeD, gIx, gIn, g1A, g2A, gInt, gLen, gTuple, gSum, gBest, dSl, dNoPart, dPart, dgName, dgTup, dgCons, dgNil, dgSub, gSetI, dIndexT, dChain, startD, List.map_cons, List.map_nil, List.length_cons, List.length_nil, List.replicate, List.append, List.cons_append, List.nil_append, List.getElem?_cons_zero, List.getElem?_cons_succ, List.set_cons_zero, List.set_cons_succ, Option.some.injEq, Dv.d.injEq, Dv.r.injEq, PyData.tuple.injEq, PyData.list.injEq, PyData.str.injEq, PyData.int.injEq, exists_eq_left', Option.map_some, Nat.zero_add, Nat.reduceAdd, Nat.reduceSub, true_and, and_true, exists_and_left, at0, at1, at2, at3, at4, eqv_int, shaped_int, eqv_pr, shaped_pr, bes, intsD, in4, flat4, flatI, Bool.not_eq_true', decide_eq_false_iff_not, not_true_eq_false, if_true, if_false, Bool.not_true, Bool.not_false, Bool.false_eq_true, Bool.true_eq_false, Bool.or_eq_false_iff,  shaped_tn, shaped_hd, shaped_r, decide_eq_true_eq, sizeLine_eq, Nat.reduceLeDiff, Int.reduceToNat, Int.reducePow, Int.reduceMul, Int.reduceAdd, Int.reduceSub, Int.reduceNeg, Int.reduceMod, setM_same, MO.lst.injEq, setM_setM, ix0, ix1, ix2, ix3, ix4, dPick, keyOf, dSlT, dTupRng, gAppend, dAppend, g2B, dM1, eqv_tn, eqv_tnl, shaped_l, dSlM, g1N, dIsi, tyD, gListD, gListM, gTupleM, sPar, dgPair, isT_it, isT_is, isT_ib, isT_ii, isT_tt, gInS, sTry, xCall, xSeq, xIf, xThen, xRaise, dIsE, dNum, dRep1, gAddT, isT_ss, isT_st, isT_ts]
    refine ⟨by decide, _, at_sx, ?_⟩
    try simp only [sSeq, sAsg, sRet, sIf, sDrop, sNext, sNever, dOp, dUn, dVar, dC, dTest, isBool, dAnd, dOr, dNot, dAndV, dOrV, dNotV, dIf, dCons, dNil, dTup, dLst, dLstM, datas, dCall, dCB, gI0, gI, gB0, g1I, gAdd, gEqD, gNeD, gIx, gIn, g1A, g2A, gInt, gLen, gTuple, gSum, gBest, dSl, dNoPart, dPart, dgName, dgTup, dgCons, dgNil, dgSub, gSetI, dIndexT, dChain, startD, List.map_cons, List.map_nil, List.length_cons, List.length_nil, List.replicate, List.append, List.cons_append, List.nil_append, List.getElem?_cons_zero, List.getElem?_cons_succ, List.set_cons_zero, List.set_cons_succ, Option.some.injEq, Dv.d.injEq, Dv.r.injEq, PyData.tuple.injEq, PyData.list.injEq, PyData.str.injEq, PyData.int.injEq, exists_eq_left', Option.map_some, Nat.zero_add, Nat.reduceAdd, Nat.reduceSub, true_and, and_true, exists_and_left, at0, at1, at2, at3, at4, eqv_int, shaped_int, eqv_pr, shaped_pr, bes, intsD, in4, flat4, flatI, Bool.not_eq_true', decide_eq_false_iff_not, not_true_eq_false, if_true, if_false, Bool.not_true, Bool.not_false, Bool.false_eq_true, Bool.true_eq_false, Bool.or_eq_false_iff,  shaped_tn, shaped_hd, shaped_r, decide_eq_true_eq, sizeLine_eq, Nat.reduceLeDiff, Int.reduceToNat, Int.reducePow, Int.reduceMul, Int.reduceAdd, Int.reduceSub, Int.reduceNeg, Int.reduceMod, setM_same, MO.lst.injEq, setM_setM, ix0, ix1, ix2, ix3, ix4, dPick, keyOf, dSlT, dTupRng, gAppend, dAppend, g2B, dM1, eqv_tn, eqv_tnl, shaped_l, dSlM, g1N, dIsi, tyD, gListD, gListM, gTupleM, sPar, dgPair, isT_it, isT_is, isT_ib, isT_ii, isT_tt, gInS, sTry, xCall, xSeq, xIf, xThen, xRaise, dIsE, dNum, dRep1, gAddT, isT_ss, isT_st, isT_ts]
    refine ⟨by unfold CMul; omega, by unfold CDivB; decide, _, g, rfl, by omega, ?_⟩
    try simp only [sSeq, sAsg, sRet, sIf, sDrop, sNext, sNever, dOp, dUn, dVar, dC, dTest, isBool, dAnd, dOr, dNot, dAndV, dOrV, dNotV, dIf, dCons, dNil, dTup, dLst, dLstM, datas, dCall, dCB, gI0, gI, gB0, g1I, gAdd, gEqD, gNeD, gIx, gIn, g1A, g2A, gInt, gLen, gTuple, gSum, gBest, dSl, dNoPart, dPart, dgName, dgTup, dgCons, dgNil, dgSub, gSetI, dIndexT, dChain, startD, List.map_cons, List.map_nil, List.length_cons, List.length_nil, List.replicate, List.append, List.cons_append, List.nil_append, List.getElem?_cons_zero, List.getElem?_cons_succ, List.set_cons_zero, List.set_cons_succ, Option.some.injEq, Dv.d.injEq, Dv.r.injEq, PyData.tuple.injEq, PyData.list.injEq, PyData.str.injEq, PyData.int.injEq, exists_eq_left', Option.map_some, Nat.zero_add, Nat.reduceAdd, Nat.reduceSub, true_and, and_true, exists_and_left, at0, at1, at2, at3, at4, eqv_int, shaped_int, eqv_pr, shaped_pr, bes, intsD, in4, flat4, flatI, Bool.not_eq_true', decide_eq_false_iff_not, not_true_eq_false, if_true, if_false, Bool.not_true, Bool.not_false, Bool.false_eq_true, Bool.true_eq_false, Bool.or_eq_false_iff,  shaped_tn, shaped_hd, shaped_r, decide_eq_true_eq, sizeLine_eq, Nat.reduceLeDiff, Int.reduceToNat, Int.reducePow, Int.reduceMul, Int.reduceAdd, Int.reduceSub, Int.reduceNeg, Int.reduceMod, setM_same, MO.lst.injEq, setM_setM, ix0, ix1, ix2, ix3, ix4, dPick, keyOf, dSlT, dTupRng, gAppend, dAppend, g2B, dM1, eqv_tn, eqv_tnl, shaped_l, dSlM, g1N, dIsi, tyD, gListD, gListM, gTupleM, sPar, dgPair, isT_it, isT_is, isT_ib, isT_ii, isT_tt, gInS, sTry, xCall, xSeq, xIf, xThen, xRaise, dIsE, dNum, dRep1, gAddT, isT_ss, isT_st, isT_ts]
    refine ⟨by decide, _, at_sy, ?_⟩
    try simp only [sSeq, sAsg, sRet, sIf, sDrop, sNext, sNever, dOp, dUn, dVar, dC, dTest, isBool, dAnd, dOr, dNot, dAndV, dOrV, dNotV, dIf, dCons, dNil, dTup, dLst, dLstM, datas, dCall, dCB, gI0, gI, gB0, g1I, gAdd, gEqD, gNeD, gIx, gIn, g1A, g2A, gInt, gLen, gTuple, gSum, gBest, dSl, dNoPart, dPart, dgName, dgTup, dgCons, dgNil, dgSub, gSetI, dIndexT, dChain, startD, List.map_cons, List.map_nil, List.length_cons, List.length_nil, List.replicate, List.append, List.cons_append, List.nil_append, List.getElem?_cons_zero, List.getElem?_cons_succ, List.set_cons_zero, List.set_cons_succ, Option.some.injEq, Dv.d.injEq, Dv.r.injEq, PyData.tuple.injEq, PyData.list.injEq, PyData.str.injEq, PyData.int.injEq, exists_eq_left', Option.map_some, Nat.zero_add, Nat.reduceAdd, Nat.reduceSub, true_and, and_true, exists_and_left, at0, at1, at2, at3, at4, eqv_int, shaped_int, eqv_pr, shaped_pr, bes, intsD, in4, flat4, flatI, Bool.not_eq_true', decide_eq_false_iff_not, not_true_eq_false, if_true, if_false, Bool.not_true, Bool.not_false, Bool.false_eq_true, Bool.true_eq_false, Bool.or_eq_false_iff,  shaped_tn, shaped_hd, shaped_r, decide_eq_true_eq, sizeLine_eq, Nat.reduceLeDiff, Int.reduceToNat, Int.reducePow, Int.reduceMul, Int.reduceAdd, Int.reduceSub, Int.reduceNeg, Int.reduceMod, setM_same, MO.lst.injEq, setM_setM, ix0, ix1, ix2, ix3, ix4, dPick, keyOf, dSlT, dTupRng, gAppend, dAppend, g2B, dM1, eqv_tn, eqv_tnl, shaped_l, dSlM, g1N, dIsi, tyD, gListD, gListM, gTupleM, sPar, dgPair, isT_it, isT_is, isT_ib, isT_ii, isT_tt, gInS, sTry, xCall, xSeq, xIf, xThen, xRaise, dIsE, dNum, dRep1, gAddT, isT_ss, isT_st, isT_ts]
    refine ⟨by unfold CMul; omega, s, q, r, _, _, rfl, l, ?_⟩
    have hA := arm_run (f := f) (g := g) (k := k) (j := n - s - bo f g k) k0 (by omega) (by omega)
    rw [show bo f g k + (n - s - bo f g k) = n - s by omega] at hA
    rw [taf_x, taf_y]
    exact z _ _ hA
theorem sc__law_due : FnScope ["one", "other", "first", "last", "found", "number"] ["one", "other", "first", "last"] (defScope s__law_due) := ⟨rfl, rfl, rfl, by decide +kernel, rfl, by decide +kernel, by decide +kernel⟩
theorem ok__law_due (T : Tx K mg) : FnOk P w K mg base CX0 4 T.a__law_due T.fd__law_due ["one", "other", "first", "last"] (spD K F__law_due) := by
  refine Fun.okDS T.F__law_due sc__law_due mo__law_due (fun ds m Q h => ?_) (fun cdv A outer s H E hr => ?_)
  · unfold F__law_due at h; obtain ⟨s, q, r, s2, q2, r2, f, t, rfl, hq, hq2, hb, z⟩ := h; rfl
  · refine ⟨_, (dss_cons (ds_set (i := 4) sc__law_due.nd rfl (by first | exact Or.inl rfl | exact Or.inr rfl) (de_lstM da_nil))
      (dss_cons (ds_for PassesOwn.never rfl (di_rangeW (by rfl) T.b_range (da_cons (dv 2) (da_cons (de_add (dv 3) de_int) da_nil))) (dg_name (i := 5) sc__law_due.nd rfl (by first | exact Or.inl rfl | exact Or.inr rfl)) (dss_one (ds_if (dt_ge (dv 5) (de_max2 rfl (by rfl) T.b_max (da_cons (de_ix (dv 0) de_int) (da_cons (de_ix (dv 1) de_int) da_nil)))) (dss_one (ds_if (dt_eq hr (de_call mo__law_place ((ok__law_place T).mono (by decide : 3 ≤ 3)) hr (by rfl) T.m__law_place T.F__law_place.kp T.n__law_place (da_cons (dv 0) (da_cons (de_tup (da_cons de_int (da_cons de_int da_nil))) (da_cons (dv 5) da_nil)))) (de_call mo__law_place ((ok__law_place T).mono (by decide : 3 ≤ 3)) hr (by rfl) T.m__law_place T.F__law_place.kp T.n__law_place (da_cons (dv 1) (da_cons (de_tup (da_cons de_int (da_cons de_int da_nil))) (da_cons (dv 5) da_nil))))) (dss_one (ds_expr (de_append (dv 4) (dv 5)))) dss_nil)) dss_nil)))
      (dss_one (ds_ret (de_tupleM (by rfl) T.b_tuple (da_cons (dv 4) da_nil)))))), fun ds m Q h => ?_⟩
    obtain ⟨s, q, r, s2, q2, r2, f, t, rfl, hq, hq2, hb, z⟩ := h
    try simp only [sSeq, sAsg, sRet, sIf, sDrop, sNext, sNever, dOp, dUn, dVar, dC, dTest, isBool, dAnd, dOr, dNot, dAndV, dOrV, dNotV, dIf, dCons, dNil, dTup, dLst, dLstM, datas, dCall, dCB, gI0, gI, gB0, g1I, gAdd, gEqD, gNeD, gIx, gIn, g1A, g2A, gInt, gLen, gTuple, gSum, gBest, dSl, dNoPart, dPart, dgName, dgTup, dgCons, dgNil, dgSub, gSetI, dIndexT, dChain, startD, List.map_cons, List.map_nil, List.length_cons, List.length_nil, List.replicate, List.append, List.cons_append, List.nil_append, List.getElem?_cons_zero, List.getElem?_cons_succ, List.set_cons_zero, List.set_cons_succ, Option.some.injEq, Dv.d.injEq, Dv.r.injEq, PyData.tuple.injEq, PyData.list.injEq, PyData.str.injEq, PyData.int.injEq, exists_eq_left', Option.map_some, Nat.zero_add, Nat.reduceAdd, Nat.reduceSub, true_and, and_true, exists_and_left, at0, at1, at2, at3, at4, eqv_int, shaped_int, eqv_pr, shaped_pr, bes, intsD, in4, flat4, flatI, Bool.not_eq_true', decide_eq_false_iff_not, not_true_eq_false, if_true, if_false, Bool.not_true, Bool.not_false, Bool.false_eq_true, Bool.true_eq_false, Bool.or_eq_false_iff,  shaped_tn, shaped_hd, shaped_r, decide_eq_true_eq, sizeLine_eq, Nat.reduceLeDiff, Int.reduceToNat, Int.reducePow, Int.reduceMul, Int.reduceAdd, Int.reduceSub, Int.reduceNeg, Int.reduceMod, setM_same, MO.lst.injEq, setM_setM, ix0, ix1, ix2, ix3, ix4, dPick, keyOf, dSlT, dTupRng, gAppend, dAppend, g2B, dM1, eqv_tn, eqv_tnl, shaped_l, dSlM, g1N, dIsi, tyD, gListD, gListM, gTupleM, sPar, dgPair, isT_it, isT_is, isT_ib, isT_ii, isT_tt, gInS, sTry, xCall, xSeq, xIf, xThen, xRaise, dIsE, dNum, dRep1, gAddT, isT_ss, isT_st, isT_ts, dLstRng, sAugI, g3A]
    intro p hp
    rw [← K27.due_eq] at z
    generalize hk : (t + 1 - f).toNat = k at z
    refine for_its ((List.range k).map fun i => .d (.int (f + ((i : Nat) : Int)))) (fun R0 hR => ?_) (fun i δ m' => ∃ v5 : Option Dv, δ = [some (spi s q r), some (spi s2 q2 r2), some (I f), some (I t), some (.r p), v5] ∧ m' = setM m p (.lst ((fromTo f i (K27.dueN s q r s2 q2 r2)).map fun z => I z))) ⟨none, rfl, rfl⟩ ?_ ?_
    · simp only [dRngW, sSeq, sAsg, sRet, sIf, sDrop, sNext, sNever, dOp, dUn, dVar, dC, dTest, isBool, dAnd, dOr, dNot, dAndV, dOrV, dNotV, dIf, dCons, dNil, dTup, dLst, dLstM, datas, dCall, dCB, gI0, gI, gB0, g1I, gAdd, gEqD, gNeD, gIx, gIn, g1A, g2A, gInt, gLen, gTuple, gSum, gBest, dSl, dNoPart, dPart, dgName, dgTup, dgCons, dgNil, dgSub, gSetI, dIndexT, dChain, startD, List.map_cons, List.map_nil, List.length_cons, List.length_nil, List.replicate, List.append, List.cons_append, List.nil_append, List.getElem?_cons_zero, List.getElem?_cons_succ, List.set_cons_zero, List.set_cons_succ, Option.some.injEq, Dv.d.injEq, Dv.r.injEq, PyData.tuple.injEq, PyData.list.injEq, PyData.str.injEq, PyData.int.injEq, exists_eq_left', Option.map_some, Nat.zero_add, Nat.reduceAdd, Nat.reduceSub, true_and, and_true, exists_and_left, at0, at1, at2, at3, at4, eqv_int, shaped_int, eqv_pr, shaped_pr, bes, intsD, in4, flat4, flatI, Bool.not_eq_true', decide_eq_false_iff_not, not_true_eq_false, if_true, if_false, Bool.not_true, Bool.not_false, Bool.false_eq_true, Bool.true_eq_false, Bool.or_eq_false_iff,  shaped_tn, shaped_hd, shaped_r, decide_eq_true_eq, sizeLine_eq, Nat.reduceLeDiff, Int.reduceToNat, Int.reducePow, Int.reduceMul, Int.reduceAdd, Int.reduceSub, Int.reduceNeg, Int.reduceMod, setM_same, MO.lst.injEq, setM_setM, ix0, ix1, ix2, ix3, ix4, dPick, keyOf, dSlT, dTupRng, gAppend, dAppend, g2B, dM1, eqv_tn, eqv_tnl, shaped_l, dSlM, g1N, dIsi, tyD, gListD, gListM, gTupleM, sPar, dgPair, isT_it, isT_is, isT_ib, isT_ii, isT_tt, gInS, sTry, xCall, xSeq, xIf, xThen, xRaise, dIsE, dNum, dRep1, gAddT, isT_ss, isT_st, isT_ts, dLstRng, sAugI, g3A]
      first | (rw [hk]; exact hR) | (refine ⟨_, _, rfl, ?_⟩; rw [hk]; exact hR)
    · rintro i d δ m' hx ⟨v5, rfl, rfl⟩
      have hi : i < k := by have := (List.getElem?_eq_some_iff.mp hx).1; simpa using this
      rw [List.getElem?_map, List.getElem?_range hi] at hx
      obtain rfl := Option.some.inj hx
      try simp only [sSeq, sAsg, sRet, sIf, sDrop, sNext, sNever, dOp, dUn, dVar, dC, dTest, isBool, dAnd, dOr, dNot, dAndV, dOrV, dNotV, dIf, dCons, dNil, dTup, dLst, dLstM, datas, dCall, dCB, gI0, gI, gB0, g1I, gAdd, gEqD, gNeD, gIx, gIn, g1A, g2A, gInt, gLen, gTuple, gSum, gBest, dSl, dNoPart, dPart, dgName, dgTup, dgCons, dgNil, dgSub, gSetI, dIndexT, dChain, startD, List.map_cons, List.map_nil, List.length_cons, List.length_nil, List.replicate, List.append, List.cons_append, List.nil_append, List.getElem?_cons_zero, List.getElem?_cons_succ, List.set_cons_zero, List.set_cons_succ, Option.some.injEq, Dv.d.injEq, Dv.r.injEq, PyData.tuple.injEq, PyData.list.injEq, PyData.str.injEq, PyData.int.injEq, exists_eq_left', Option.map_some, Nat.zero_add, Nat.reduceAdd, Nat.reduceSub, true_and, and_true, exists_and_left, at0, at1, at2, at3, at4, eqv_int, shaped_int, eqv_pr, shaped_pr, bes, intsD, in4, flat4, flatI, Bool.not_eq_true', decide_eq_false_iff_not, not_true_eq_false, if_true, if_false, Bool.not_true, Bool.not_false, Bool.false_eq_true, Bool.true_eq_false, Bool.or_eq_false_iff,  shaped_tn, shaped_hd, shaped_r, decide_eq_true_eq, sizeLine_eq, Nat.reduceLeDiff, Int.reduceToNat, Int.reducePow, Int.reduceMul, Int.reduceAdd, Int.reduceSub, Int.reduceNeg, Int.reduceMod, setM_same, MO.lst.injEq, setM_setM, ix0, ix1, ix2, ix3, ix4, dPick, keyOf, dSlT, dTupRng, gAppend, dAppend, g2B, dM1, eqv_tn, eqv_tnl, shaped_l, dSlM, g1N, dIsi, tyD, gListD, gListM, gTupleM, sPar, dgPair, isT_it, isT_is, isT_ib, isT_ii, isT_tt, gInS, sTry, xCall, xSeq, xIf, xThen, xRaise, dIsE, dNum, dRep1, gAddT, isT_ss, isT_st, isT_ts, dLstRng, sAugI, g3A]
      have one := fromTo_one f i (K27.dueN s q r s2 q2 r2)
      have hln := ft_len f i (K27.dueN s q r s2 q2 r2)
      have hmx : maxI s s2 = if s2 > s then s2 else s := rfl
      have hnb : f + ((i : Nat) : Int) < 2 ^ 101 := by omega
      generalize f + ((i : Nat) : Int) = n at *
      by_cases c : maxI s s2 ≤ n
      · rw [if_pos c]
        have c1 : s ≤ n ∧ s2 ≤ n := by split at hmx <;> omega
        refine ⟨s, q, r, 1, 1, n, rfl, hq, ⟨by decide, by decide⟩, by omega, fun u v hA => ?_⟩
        have eA := pl_eq hq (r := r) (arm_place hq (r := r) hA)
        refine ⟨s2, q2, r2, 1, 1, n, rfl, hq2, ⟨by decide, by decide⟩, by omega, fun u2 v2 hA2 => ?_⟩
        have eA2 := pl_eq hq2 (r := r2) (arm_place hq2 (r := r2) hA2)
        have sz := K27.same_zero eA eA2
        have hdn : K27.dueN s q r s2 q2 r2 n = (decide (fpx q r u v = fpx q2 r2 u2 v2) && decide (fpy q r u v = fpy q2 r2 u2 v2)) := by unfold K27.dueN; rw [decide_eq_true c, Bool.true_and, sz]
        rw [hdn] at one
        try simp only [sSeq, sAsg, sRet, sIf, sDrop, sNext, sNever, dOp, dUn, dVar, dC, dTest, isBool, dAnd, dOr, dNot, dAndV, dOrV, dNotV, dIf, dCons, dNil, dTup, dLst, dLstM, datas, dCall, dCB, gI0, gI, gB0, g1I, gAdd, gEqD, gNeD, gIx, gIn, g1A, g2A, gInt, gLen, gTuple, gSum, gBest, dSl, dNoPart, dPart, dgName, dgTup, dgCons, dgNil, dgSub, gSetI, dIndexT, dChain, startD, List.map_cons, List.map_nil, List.length_cons, List.length_nil, List.replicate, List.append, List.cons_append, List.nil_append, List.getElem?_cons_zero, List.getElem?_cons_succ, List.set_cons_zero, List.set_cons_succ, Option.some.injEq, Dv.d.injEq, Dv.r.injEq, PyData.tuple.injEq, PyData.list.injEq, PyData.str.injEq, PyData.int.injEq, exists_eq_left', Option.map_some, Nat.zero_add, Nat.reduceAdd, Nat.reduceSub, true_and, and_true, exists_and_left, at0, at1, at2, at3, at4, eqv_int, shaped_int, eqv_pr, shaped_pr, bes, intsD, in4, flat4, flatI, Bool.not_eq_true', decide_eq_false_iff_not, not_true_eq_false, if_true, if_false, Bool.not_true, Bool.not_false, Bool.false_eq_true, Bool.true_eq_false, Bool.or_eq_false_iff,  shaped_tn, shaped_hd, shaped_r, decide_eq_true_eq, sizeLine_eq, Nat.reduceLeDiff, Int.reduceToNat, Int.reducePow, Int.reduceMul, Int.reduceAdd, Int.reduceSub, Int.reduceNeg, Int.reduceMod, setM_same, MO.lst.injEq, setM_setM, ix0, ix1, ix2, ix3, ix4, dPick, keyOf, dSlT, dTupRng, gAppend, dAppend, g2B, dM1, eqv_tn, eqv_tnl, shaped_l, dSlM, g1N, dIsi, tyD, gListD, gListM, gTupleM, sPar, dgPair, isT_it, isT_is, isT_ib, isT_ii, isT_tt, gInS, sTry, xCall, xSeq, xIf, xThen, xRaise, dIsE, dNum, dRep1, gAddT, isT_ss, isT_st, isT_ts, dLstRng, sAugI, g3A]
        cases hh : (decide (fpx q r u v = fpx q2 r2 u2 v2) && decide (fpy q r u v = fpy q2 r2 u2 v2)) with
        | true =>
          rw [hh, if_pos rfl] at one
          rw [if_pos rfl]
          refine ⟨⟨_, rfl⟩, by rw [List.length_map]; omega, _, rfl, ?_⟩
          rw [one, List.map_append]
          rfl
        | false =>
          rw [hh, if_neg (by decide), List.append_nil] at one
          rw [if_neg (by decide), one]
          exact ⟨_, rfl, rfl⟩
      · rw [if_neg c]
        have hdn : K27.dueN s q r s2 q2 r2 n = false := by unfold K27.dueN; rw [decide_eq_false c, Bool.false_and]
        rw [hdn, if_neg (by decide), List.append_nil] at one
        rw [one]
        exact ⟨_, rfl, rfl⟩
    · rintro δ m' ⟨v5, rfl, rfl⟩
      rw [List.length_map, List.length_range]
      try simp only [sSeq, sAsg, sRet, sIf, sDrop, sNext, sNever, dOp, dUn, dVar, dC, dTest, isBool, dAnd, dOr, dNot, dAndV, dOrV, dNotV, dIf, dCons, dNil, dTup, dLst, dLstM, datas, dCall, dCB, gI0, gI, gB0, g1I, gAdd, gEqD, gNeD, gIx, gIn, g1A, g2A, gInt, gLen, gTuple, gSum, gBest, dSl, dNoPart, dPart, dgName, dgTup, dgCons, dgNil, dgSub, gSetI, dIndexT, dChain, startD, List.map_cons, List.map_nil, List.length_cons, List.length_nil, List.replicate, List.append, List.cons_append, List.nil_append, List.getElem?_cons_zero, List.getElem?_cons_succ, List.set_cons_zero, List.set_cons_succ, Option.some.injEq, Dv.d.injEq, Dv.r.injEq, PyData.tuple.injEq, PyData.list.injEq, PyData.str.injEq, PyData.int.injEq, exists_eq_left', Option.map_some, Nat.zero_add, Nat.reduceAdd, Nat.reduceSub, true_and, and_true, exists_and_left, at0, at1, at2, at3, at4, eqv_int, shaped_int, eqv_pr, shaped_pr, bes, intsD, in4, flat4, flatI, Bool.not_eq_true', decide_eq_false_iff_not, not_true_eq_false, if_true, if_false, Bool.not_true, Bool.not_false, Bool.false_eq_true, Bool.true_eq_false, Bool.or_eq_false_iff,  shaped_tn, shaped_hd, shaped_r, decide_eq_true_eq, sizeLine_eq, Nat.reduceLeDiff, Int.reduceToNat, Int.reducePow, Int.reduceMul, Int.reduceAdd, Int.reduceSub, Int.reduceNeg, Int.reduceMod, setM_same, MO.lst.injEq, setM_setM, ix0, ix1, ix2, ix3, ix4, dPick, keyOf, dSlT, dTupRng, gAppend, dAppend, g2B, dM1, eqv_tn, eqv_tnl, shaped_l, dSlM, g1N, dIsi, tyD, gListD, gListM, gTupleM, sPar, dgPair, isT_it, isT_is, isT_ib, isT_ii, isT_tt, gInS, sTry, xCall, xSeq, xIf, xThen, xRaise, dIsE, dNum, dRep1, gAddT, isT_ss, isT_st, isT_ts, dLstRng, sAugI, g3A]
      refine ⟨(fromTo f k (K27.dueN s q r s2 q2 r2)).map .int, by rw [List.map_map]; rfl, ?_⟩
      exact ⟨m, sub_new hp, z⟩
theorem sc_law : FnScope ["script", "deck", "turn", "one", "other", "both", "begin", "first", "many", "last"] ["script"] (defScope s_law) := ⟨rfl, rfl, rfl, by decide +kernel, rfl, by decide +kernel, by decide +kernel⟩
theorem ok_law (T : Tx K mg) : FnOk P w K mg base CX0 6 T.a_law T.fd_law ["script"] (spD K F_law) := by
  refine Fun.okD T.F_law sc_law mo_law (fun ds m Q h => ?_) (fun cdv A outer s H E hr => ?_)
  · unfold F_law at h; obtain ⟨ns, rfl, l, z⟩ := h; rfl
  · refine ⟨_, (dss_cons (ds_set (i := 1) sc_law.nd rfl (by first | exact Or.inl rfl | exact Or.inr rfl) (de_call mo__law_deck ((ok__law_deck T).mono (by decide : 1 ≤ 5)) hr (by rfl) T.m__law_deck T.F__law_deck.kp T.n__law_deck (da_cons (dv 0) da_nil)))
      (dss_cons (ds_for PassesOwn.never rfl (di_range1 (by rfl) T.b_range (da_cons de_int da_nil)) (dg_name (i := 2) sc_law.nd rfl (by first | exact Or.inl rfl | exact Or.inr rfl)) (dss_cons (ds_set (i := 3) sc_law.nd rfl (by first | exact Or.inl rfl | exact Or.inr rfl) (de_call mo__law_spiral ((ok__law_spiral T).mono (by decide : 3 ≤ 5)) hr (by rfl) T.m__law_spiral T.F__law_spiral.kp T.n__law_spiral (da_cons (dv 1) da_nil)))
      (dss_cons (ds_set (i := 4) sc_law.nd rfl (by first | exact Or.inl rfl | exact Or.inr rfl) (de_call mo__law_beside ((ok__law_beside T).mono (by decide : 4 ≤ 5)) hr (by rfl) T.m__law_beside T.F__law_beside.kp T.n__law_beside (da_cons (dv 1) (da_cons (dv 3) da_nil))))
      (dss_cons (ds_set (i := 5) sc_law.nd rfl (by first | exact Or.inl rfl | exact Or.inr rfl) (de_max2 rfl (by rfl) T.b_max (da_cons (de_ix (dv 3) de_int) (da_cons (de_ix (dv 4) de_int) da_nil))))
      (dss_cons (ds_set (i := 6) sc_law.nd rfl (by first | exact Or.inl rfl | exact Or.inr rfl) (de_ix (de_lst (da_cons (de_ix (dv 3) de_int) (da_cons (de_ix (dv 4) de_int) (da_cons (de_add (dv 5) (de_call mo__law_steps ((ok__law_steps T).mono (by decide : 3 ≤ 5)) hr (by rfl) T.m__law_steps T.F__law_steps.kp T.n__law_steps (da_cons (dv 1) (da_cons (de_add (de_add (dv 5) (de_pow de_int de_int)) de_int) da_nil)))) da_nil)))) (de_call mo__law_draw ((ok__law_draw T).mono (by decide : 1 ≤ 5)) hr (by rfl) T.m__law_draw T.F__law_draw.kp T.n__law_draw (da_cons (dv 1) (da_cons de_int da_nil)))))
      (dss_cons (ds_set (i := 7) sc_law.nd rfl (by first | exact Or.inl rfl | exact Or.inr rfl) (de_sub (dv 6) (de_ix (de_lst (da_cons de_int (da_cons (de_call mo__law_draw ((ok__law_draw T).mono (by decide : 1 ≤ 5)) hr (by rfl) T.m__law_draw T.F__law_draw.kp T.n__law_draw (da_cons (dv 1) (da_cons de_int da_nil))) (da_cons de_int da_nil)))) (de_call mo__law_draw ((ok__law_draw T).mono (by decide : 1 ≤ 5)) hr (by rfl) T.m__law_draw T.F__law_draw.kp T.n__law_draw (da_cons (dv 1) (da_cons de_int da_nil))))))
      (dss_cons (ds_set (i := 8) sc_law.nd rfl (by first | exact Or.inl rfl | exact Or.inr rfl) (de_ix (de_lst (da_cons (de_call mo__law_draw ((ok__law_draw T).mono (by decide : 1 ≤ 5)) hr (by rfl) T.m__law_draw T.F__law_draw.kp T.n__law_draw (da_cons (dv 1) (da_cons de_int da_nil))) (da_cons de_int (da_cons de_int (da_cons de_int da_nil))))) (de_call mo__law_draw ((ok__law_draw T).mono (by decide : 1 ≤ 5)) hr (by rfl) T.m__law_draw T.F__law_draw.kp T.n__law_draw (da_cons (dv 1) (da_cons de_int da_nil)))))
      (dss_cons (ds_if (DW.dt (dw_and (dt_eq hr (dv 2) de_int) (dw_and1 (dt_eq hr (de_call mo__law_draw ((ok__law_draw T).mono (by decide : 1 ≤ 5)) hr (by rfl) T.m__law_draw T.F__law_draw.kp T.n__law_draw (da_cons (dv 1) (da_cons de_int da_nil))) de_int)))) (dss_one (ds_set (i := 8) sc_law.nd rfl (by first | exact Or.inl rfl | exact Or.inr rfl) (de_pow de_int de_int))) dss_nil)
      (dss_cons (ds_set (i := 9) sc_law.nd rfl (by first | exact Or.inl rfl | exact Or.inr rfl) (de_sub (de_sub (de_add (dv 7) (dv 8)) de_int) (de_mul (de_intc (by rfl) T.b_int (da_cons (de_eq hr (dv 8) de_int) da_nil)) (de_call mo__law_draw ((ok__law_draw T).mono (by decide : 1 ≤ 5)) hr (by rfl) T.m__law_draw T.F__law_draw.kp T.n__law_draw (da_cons (dv 1) (da_cons de_int da_nil))))))
      (dss_one (ds_if (dt_not (dt_val (de_call mo__law_same ((ok__law_same T).mono (by decide : 2 ≤ 5)) hr (by rfl) T.m__law_same T.F__law_same.kp T.n__law_same (da_cons (de_call mo_same_places ((ok_same_places T).mono (by decide : 5 ≤ 5)) hr (by rfl) T.m_same_places T.F_same_places.kp T.n_same_places (da_cons (dv 3) (da_cons (dv 4) (da_cons (dv 7) (da_cons (dv 9) da_nil))))) (da_cons (de_call mo__law_due ((ok__law_due T).mono (by decide : 4 ≤ 5)) hr (by rfl) T.m__law_due T.F__law_due.kp T.n__law_due (da_cons (dv 3) (da_cons (dv 4) (da_cons (dv 7) (da_cons (dv 9) da_nil))))) da_nil))))) (dss_one (ds_ret de_bl)) dss_nil)))))))))))
      (dss_cons (ds_set (i := 3) sc_law.nd rfl (by first | exact Or.inl rfl | exact Or.inr rfl) (de_tup (da_cons de_int (da_cons de_str (da_cons de_str da_nil)))))
      (dss_one (ds_ret (de_and (de_eq hr (de_call mo_same_places ((ok_same_places T).mono (by decide : 5 ≤ 5)) hr (by rfl) T.m_same_places T.F_same_places.kp T.n_same_places (da_cons (dv 3) (da_cons (dv 3) (da_cons de_int (da_cons de_int da_nil))))) (de_tup (da_cons de_int (da_cons de_int (da_cons de_int (da_cons de_int da_nil)))))) (de_one (de_eq hr (de_call mo_same_places ((ok_same_places T).mono (by decide : 5 ≤ 5)) hr (by rfl) T.m_same_places T.F_same_places.kp T.n_same_places (da_cons (dv 3) (da_cons (dv 3) (da_cons de_int (da_cons de_int da_nil))))) (de_tup da_nil))))))))), fun ds m Q h => ?_⟩
    obtain ⟨ns, rfl, l, z⟩ := h
    try simp only [sSeq, sAsg, sRet, sIf, sDrop, sNext, sNever, dOp, dUn, dVar, dC, dTest, isBool, dAnd, dOr, dNot, dAndV, dOrV, dNotV, dIf, dCons, dNil, dTup, dLst, dLstM, datas, dCall, dCB, gI0, gI, gB0, g1I, gAdd, gEqD, gNeD, gIx, gIn, g1A, g2A, gInt, gLen, gTuple, gSum, gBest, dSl, dNoPart, dPart, dgName, dgTup, dgCons, dgNil, dgSub, gSetI, dIndexT, dChain, startD, List.map_cons, List.map_nil, List.length_cons, List.length_nil, List.replicate, List.append, List.cons_append, List.nil_append, List.getElem?_cons_zero, List.getElem?_cons_succ, List.set_cons_zero, List.set_cons_succ, Option.some.injEq, Dv.d.injEq, Dv.r.injEq, PyData.tuple.injEq, PyData.list.injEq, PyData.str.injEq, PyData.int.injEq, exists_eq_left', Option.map_some, Nat.zero_add, Nat.reduceAdd, Nat.reduceSub, true_and, and_true, exists_and_left, at0, at1, at2, at3, at4, eqv_int, shaped_int, eqv_pr, shaped_pr, bes, intsD, in4, flat4, flatI, Bool.not_eq_true', decide_eq_false_iff_not, not_true_eq_false, if_true, if_false, Bool.not_true, Bool.not_false, Bool.false_eq_true, Bool.true_eq_false, Bool.or_eq_false_iff,  shaped_tn, shaped_hd, shaped_r, decide_eq_true_eq, sizeLine_eq, Nat.reduceLeDiff, Int.reduceToNat, Int.reducePow, Int.reduceMul, Int.reduceAdd, Int.reduceSub, Int.reduceNeg, Int.reduceMod, setM_same, MO.lst.injEq, setM_setM, ix0, ix1, ix2, ix3, ix4, dPick, keyOf, dSlT, dTupRng, gAppend, dAppend, g2B, dM1, eqv_tn, eqv_tnl, shaped_l, dSlM, g1N, dIsi, tyD, gListD, gListM, gTupleM, sPar, dgPair, isT_it, isT_is, isT_ib, isT_ii, isT_tt, gInS, sTry, xCall, xSeq, xIf, xThen, xRaise, dIsE, dNum, dRep1, gAddT, isT_ss, isT_st, isT_ts, dLstRng, sAugI, g3A]
    refine ⟨ns, rfl, l, fun p o hp hd => ?_⟩
    try simp only [sSeq, sAsg, sRet, sIf, sDrop, sNext, sNever, dOp, dUn, dVar, dC, dTest, isBool, dAnd, dOr, dNot, dAndV, dOrV, dNotV, dIf, dCons, dNil, dTup, dLst, dLstM, datas, dCall, dCB, gI0, gI, gB0, g1I, gAdd, gEqD, gNeD, gIx, gIn, g1A, g2A, gInt, gLen, gTuple, gSum, gBest, dSl, dNoPart, dPart, dgName, dgTup, dgCons, dgNil, dgSub, gSetI, dIndexT, dChain, startD, List.map_cons, List.map_nil, List.length_cons, List.length_nil, List.replicate, List.append, List.cons_append, List.nil_append, List.getElem?_cons_zero, List.getElem?_cons_succ, List.set_cons_zero, List.set_cons_succ, Option.some.injEq, Dv.d.injEq, Dv.r.injEq, PyData.tuple.injEq, PyData.list.injEq, PyData.str.injEq, PyData.int.injEq, exists_eq_left', Option.map_some, Nat.zero_add, Nat.reduceAdd, Nat.reduceSub, true_and, and_true, exists_and_left, at0, at1, at2, at3, at4, eqv_int, shaped_int, eqv_pr, shaped_pr, bes, intsD, in4, flat4, flatI, Bool.not_eq_true', decide_eq_false_iff_not, not_true_eq_false, if_true, if_false, Bool.not_true, Bool.not_false, Bool.false_eq_true, Bool.true_eq_false, Bool.or_eq_false_iff,  shaped_tn, shaped_hd, shaped_r, decide_eq_true_eq, sizeLine_eq, Nat.reduceLeDiff, Int.reduceToNat, Int.reducePow, Int.reduceMul, Int.reduceAdd, Int.reduceSub, Int.reduceNeg, Int.reduceMod, setM_same, MO.lst.injEq, setM_setM, ix0, ix1, ix2, ix3, ix4, dPick, keyOf, dSlT, dTupRng, gAppend, dAppend, g2B, dM1, eqv_tn, eqv_tnl, shaped_l, dSlM, g1N, dIsi, tyD, gListD, gListM, gTupleM, sPar, dgPair, isT_it, isT_is, isT_ib, isT_ii, isT_tt, gInS, sTry, xCall, xSeq, xIf, xThen, xRaise, dIsE, dNum, dRep1, gAddT, isT_ss, isT_st, isT_ts, dLstRng, sAugI, g3A]
    refine for_rng 5 (fun R hR => ⟨5, rfl, by decide, hR⟩) (fun i δ m' => ∃ (v2 v3 v4 v5 v6 v7 v8 v9 : Option Dv) (o' : MO), δ = [some (.d (.list (ns.map .int))), some (.r p), v2, v3, v4, v5, v6, v7, v8, v9] ∧ m' = setM m p o' ∧ DeckB o' (100 * i)) ⟨none, none, none, none, none, none, none, none, o, rfl, rfl, hd⟩ ?_ ?_
    · rintro i δ m' hi ⟨v2, v3, v4, v5, v6, v7, v8, v9, o', rfl, rfl, hd'⟩
      try simp only [sSeq, sAsg, sRet, sIf, sDrop, sNext, sNever, dOp, dUn, dVar, dC, dTest, isBool, dAnd, dOr, dNot, dAndV, dOrV, dNotV, dIf, dCons, dNil, dTup, dLst, dLstM, datas, dCall, dCB, gI0, gI, gB0, g1I, gAdd, gEqD, gNeD, gIx, gIn, g1A, g2A, gInt, gLen, gTuple, gSum, gBest, dSl, dNoPart, dPart, dgName, dgTup, dgCons, dgNil, dgSub, gSetI, dIndexT, dChain, startD, List.map_cons, List.map_nil, List.length_cons, List.length_nil, List.replicate, List.append, List.cons_append, List.nil_append, List.getElem?_cons_zero, List.getElem?_cons_succ, List.set_cons_zero, List.set_cons_succ, Option.some.injEq, Dv.d.injEq, Dv.r.injEq, PyData.tuple.injEq, PyData.list.injEq, PyData.str.injEq, PyData.int.injEq, exists_eq_left', Option.map_some, Nat.zero_add, Nat.reduceAdd, Nat.reduceSub, true_and, and_true, exists_and_left, at0, at1, at2, at3, at4, eqv_int, shaped_int, eqv_pr, shaped_pr, bes, intsD, in4, flat4, flatI, Bool.not_eq_true', decide_eq_false_iff_not, not_true_eq_false, if_true, if_false, Bool.not_true, Bool.not_false, Bool.false_eq_true, Bool.true_eq_false, Bool.or_eq_false_iff,  shaped_tn, shaped_hd, shaped_r, decide_eq_true_eq, sizeLine_eq, Nat.reduceLeDiff, Int.reduceToNat, Int.reducePow, Int.reduceMul, Int.reduceAdd, Int.reduceSub, Int.reduceNeg, Int.reduceMod, setM_same, MO.lst.injEq, setM_setM, ix0, ix1, ix2, ix3, ix4, dPick, keyOf, dSlT, dTupRng, gAppend, dAppend, g2B, dM1, eqv_tn, eqv_tnl, shaped_l, dSlM, g1N, dIsi, tyD, gListD, gListM, gTupleM, sPar, dgPair, isT_it, isT_is, isT_ib, isT_ii, isT_tt, gInS, sTry, xCall, xSeq, xIf, xThen, xRaise, dIsE, dNum, dRep1, gAddT, isT_ss, isT_st, isT_ts, dLstRng, sAugI, g3A]
      refine ⟨p, _, _, rfl, setM_same, hd', by omega, fun s q r o1 hs hq d1 => ?_⟩
      try simp only [sSeq, sAsg, sRet, sIf, sDrop, sNext, sNever, dOp, dUn, dVar, dC, dTest, isBool, dAnd, dOr, dNot, dAndV, dOrV, dNotV, dIf, dCons, dNil, dTup, dLst, dLstM, datas, dCall, dCB, gI0, gI, gB0, g1I, gAdd, gEqD, gNeD, gIx, gIn, g1A, g2A, gInt, gLen, gTuple, gSum, gBest, dSl, dNoPart, dPart, dgName, dgTup, dgCons, dgNil, dgSub, gSetI, dIndexT, dChain, startD, List.map_cons, List.map_nil, List.length_cons, List.length_nil, List.replicate, List.append, List.cons_append, List.nil_append, List.getElem?_cons_zero, List.getElem?_cons_succ, List.set_cons_zero, List.set_cons_succ, Option.some.injEq, Dv.d.injEq, Dv.r.injEq, PyData.tuple.injEq, PyData.list.injEq, PyData.str.injEq, PyData.int.injEq, exists_eq_left', Option.map_some, Nat.zero_add, Nat.reduceAdd, Nat.reduceSub, true_and, and_true, exists_and_left, at0, at1, at2, at3, at4, eqv_int, shaped_int, eqv_pr, shaped_pr, bes, intsD, in4, flat4, flatI, Bool.not_eq_true', decide_eq_false_iff_not, not_true_eq_false, if_true, if_false, Bool.not_true, Bool.not_false, Bool.false_eq_true, Bool.true_eq_false, Bool.or_eq_false_iff,  shaped_tn, shaped_hd, shaped_r, decide_eq_true_eq, sizeLine_eq, Nat.reduceLeDiff, Int.reduceToNat, Int.reducePow, Int.reduceMul, Int.reduceAdd, Int.reduceSub, Int.reduceNeg, Int.reduceMod, setM_same, MO.lst.injEq, setM_setM, ix0, ix1, ix2, ix3, ix4, dPick, keyOf, dSlT, dTupRng, gAppend, dAppend, g2B, dM1, eqv_tn, eqv_tnl, shaped_l, dSlM, g1N, dIsi, tyD, gListD, gListM, gTupleM, sPar, dgPair, isT_it, isT_is, isT_ib, isT_ii, isT_tt, gInS, sTry, xCall, xSeq, xIf, xThen, xRaise, dIsE, dNum, dRep1, gAddT, isT_ss, isT_st, isT_ts, dLstRng, sAugI, g3A]
      refine ⟨p, _, _, s, q, r, rfl, setM_same, d1, by omega, hq, hs, fun s2 q2 r2 o2 hs2 hq2 d2 => ?_⟩
      try simp only [sSeq, sAsg, sRet, sIf, sDrop, sNext, sNever, dOp, dUn, dVar, dC, dTest, isBool, dAnd, dOr, dNot, dAndV, dOrV, dNotV, dIf, dCons, dNil, dTup, dLst, dLstM, datas, dCall, dCB, gI0, gI, gB0, g1I, gAdd, gEqD, gNeD, gIx, gIn, g1A, g2A, gInt, gLen, gTuple, gSum, gBest, dSl, dNoPart, dPart, dgName, dgTup, dgCons, dgNil, dgSub, gSetI, dIndexT, dChain, startD, List.map_cons, List.map_nil, List.length_cons, List.length_nil, List.replicate, List.append, List.cons_append, List.nil_append, List.getElem?_cons_zero, List.getElem?_cons_succ, List.set_cons_zero, List.set_cons_succ, Option.some.injEq, Dv.d.injEq, Dv.r.injEq, PyData.tuple.injEq, PyData.list.injEq, PyData.str.injEq, PyData.int.injEq, exists_eq_left', Option.map_some, Nat.zero_add, Nat.reduceAdd, Nat.reduceSub, true_and, and_true, exists_and_left, at0, at1, at2, at3, at4, eqv_int, shaped_int, eqv_pr, shaped_pr, bes, intsD, in4, flat4, flatI, Bool.not_eq_true', decide_eq_false_iff_not, not_true_eq_false, if_true, if_false, Bool.not_true, Bool.not_false, Bool.false_eq_true, Bool.true_eq_false, Bool.or_eq_false_iff,  shaped_tn, shaped_hd, shaped_r, decide_eq_true_eq, sizeLine_eq, Nat.reduceLeDiff, Int.reduceToNat, Int.reducePow, Int.reduceMul, Int.reduceAdd, Int.reduceSub, Int.reduceNeg, Int.reduceMod, setM_same, MO.lst.injEq, setM_setM, ix0, ix1, ix2, ix3, ix4, dPick, keyOf, dSlT, dTupRng, gAppend, dAppend, g2B, dM1, eqv_tn, eqv_tnl, shaped_l, dSlM, g1N, dIsi, tyD, gListD, gListM, gTupleM, sPar, dgPair, isT_it, isT_is, isT_ib, isT_ii, isT_tt, gInS, sTry, xCall, xSeq, xIf, xThen, xRaise, dIsE, dNum, dRep1, gAddT, isT_ss, isT_st, isT_ts, dLstRng, sAugI, g3A]
      repeat (refine And.intro (by first | (show CPow _ _; unfold CPow; decide) | (show CMul _ _; unfold CMul; omega) | (show CDivB _ _; unfold CDivB; omega) | decide | omega | exact ⟨_, rfl⟩) ?_)
      have hmx : maxI s s2 = if s2 > s then s2 else s := rfl
      have hmb : -(10 ^ 18) ≤ maxI s s2 ∧ maxI s s2 ≤ 10 ^ 18 := by split at hmx <;> omega
      generalize maxI s s2 = bo at *
      refine ⟨p, _, _, _, rfl, setM_same, d2, by omega, by omega, fun t o3 l3 u3 d3 => ?_⟩
      try simp only [sSeq, sAsg, sRet, sIf, sDrop, sNext, sNever, dOp, dUn, dVar, dC, dTest, isBool, dAnd, dOr, dNot, dAndV, dOrV, dNotV, dIf, dCons, dNil, dTup, dLst, dLstM, datas, dCall, dCB, gI0, gI, gB0, g1I, gAdd, gEqD, gNeD, gIx, gIn, g1A, g2A, gInt, gLen, gTuple, gSum, gBest, dSl, dNoPart, dPart, dgName, dgTup, dgCons, dgNil, dgSub, gSetI, dIndexT, dChain, startD, List.map_cons, List.map_nil, List.length_cons, List.length_nil, List.replicate, List.append, List.cons_append, List.nil_append, List.getElem?_cons_zero, List.getElem?_cons_succ, List.set_cons_zero, List.set_cons_succ, Option.some.injEq, Dv.d.injEq, Dv.r.injEq, PyData.tuple.injEq, PyData.list.injEq, PyData.str.injEq, PyData.int.injEq, exists_eq_left', Option.map_some, Nat.zero_add, Nat.reduceAdd, Nat.reduceSub, true_and, and_true, exists_and_left, at0, at1, at2, at3, at4, eqv_int, shaped_int, eqv_pr, shaped_pr, bes, intsD, in4, flat4, flatI, Bool.not_eq_true', decide_eq_false_iff_not, not_true_eq_false, if_true, if_false, Bool.not_true, Bool.not_false, Bool.false_eq_true, Bool.true_eq_false, Bool.or_eq_false_iff,  shaped_tn, shaped_hd, shaped_r, decide_eq_true_eq, sizeLine_eq, Nat.reduceLeDiff, Int.reduceToNat, Int.reducePow, Int.reduceMul, Int.reduceAdd, Int.reduceSub, Int.reduceNeg, Int.reduceMod, setM_same, MO.lst.injEq, setM_setM, ix0, ix1, ix2, ix3, ix4, dPick, keyOf, dSlT, dTupRng, gAppend, dAppend, g2B, dM1, eqv_tn, eqv_tnl, shaped_l, dSlM, g1N, dIsi, tyD, gListD, gListM, gTupleM, sPar, dgPair, isT_it, isT_is, isT_ib, isT_ii, isT_tt, gInS, sTry, xCall, xSeq, xIf, xThen, xRaise, dIsE, dNum, dRep1, gAddT, isT_ss, isT_st, isT_ts, dLstRng, sAugI, g3A]
      refine ⟨p, _, _, _, rfl, by decide, setM_same, d3, by omega, fun w4 o4 l4 u4 d4 => ?_⟩
      obtain ⟨be, mbe, ebe⟩ := at_mem (ns := [s, s2, bo + t]) l4 u4
      simp only [List.map_cons, List.map_nil] at ebe
      simp only [List.mem_cons, List.not_mem_nil, or_false] at mbe
      have hbe : -(10 ^ 18) ≤ be ∧ be ≤ 10 ^ 20 := by omega
      clear mbe
      try simp only [sSeq, sAsg, sRet, sIf, sDrop, sNext, sNever, dOp, dUn, dVar, dC, dTest, isBool, dAnd, dOr, dNot, dAndV, dOrV, dNotV, dIf, dCons, dNil, dTup, dLst, dLstM, datas, dCall, dCB, gI0, gI, gB0, g1I, gAdd, gEqD, gNeD, gIx, gIn, g1A, g2A, gInt, gLen, gTuple, gSum, gBest, dSl, dNoPart, dPart, dgName, dgTup, dgCons, dgNil, dgSub, gSetI, dIndexT, dChain, startD, List.map_cons, List.map_nil, List.length_cons, List.length_nil, List.replicate, List.append, List.cons_append, List.nil_append, List.getElem?_cons_zero, List.getElem?_cons_succ, List.set_cons_zero, List.set_cons_succ, Option.some.injEq, Dv.d.injEq, Dv.r.injEq, PyData.tuple.injEq, PyData.list.injEq, PyData.str.injEq, PyData.int.injEq, exists_eq_left', Option.map_some, Nat.zero_add, Nat.reduceAdd, Nat.reduceSub, true_and, and_true, exists_and_left, at0, at1, at2, at3, at4, eqv_int, shaped_int, eqv_pr, shaped_pr, bes, intsD, in4, flat4, flatI, Bool.not_eq_true', decide_eq_false_iff_not, not_true_eq_false, if_true, if_false, Bool.not_true, Bool.not_false, Bool.false_eq_true, Bool.true_eq_false, Bool.or_eq_false_iff,  shaped_tn, shaped_hd, shaped_r, decide_eq_true_eq, sizeLine_eq, Nat.reduceLeDiff, Int.reduceToNat, Int.reducePow, Int.reduceMul, Int.reduceAdd, Int.reduceSub, Int.reduceNeg, Int.reduceMod, setM_same, MO.lst.injEq, setM_setM, ix0, ix1, ix2, ix3, ix4, dPick, keyOf, dSlT, dTupRng, gAppend, dAppend, g2B, dM1, eqv_tn, eqv_tnl, shaped_l, dSlM, g1N, dIsi, tyD, gListD, gListM, gTupleM, sPar, dgPair, isT_it, isT_is, isT_ib, isT_ii, isT_tt, gInS, sTry, xCall, xSeq, xIf, xThen, xRaise, dIsE, dNum, dRep1, gAddT, isT_ss, isT_st, isT_ts, dLstRng, sAugI, g3A]
      refine ⟨_, ebe, ?_⟩
      try simp only [sSeq, sAsg, sRet, sIf, sDrop, sNext, sNever, dOp, dUn, dVar, dC, dTest, isBool, dAnd, dOr, dNot, dAndV, dOrV, dNotV, dIf, dCons, dNil, dTup, dLst, dLstM, datas, dCall, dCB, gI0, gI, gB0, g1I, gAdd, gEqD, gNeD, gIx, gIn, g1A, g2A, gInt, gLen, gTuple, gSum, gBest, dSl, dNoPart, dPart, dgName, dgTup, dgCons, dgNil, dgSub, gSetI, dIndexT, dChain, startD, List.map_cons, List.map_nil, List.length_cons, List.length_nil, List.replicate, List.append, List.cons_append, List.nil_append, List.getElem?_cons_zero, List.getElem?_cons_succ, List.set_cons_zero, List.set_cons_succ, Option.some.injEq, Dv.d.injEq, Dv.r.injEq, PyData.tuple.injEq, PyData.list.injEq, PyData.str.injEq, PyData.int.injEq, exists_eq_left', Option.map_some, Nat.zero_add, Nat.reduceAdd, Nat.reduceSub, true_and, and_true, exists_and_left, at0, at1, at2, at3, at4, eqv_int, shaped_int, eqv_pr, shaped_pr, bes, intsD, in4, flat4, flatI, Bool.not_eq_true', decide_eq_false_iff_not, not_true_eq_false, if_true, if_false, Bool.not_true, Bool.not_false, Bool.false_eq_true, Bool.true_eq_false, Bool.or_eq_false_iff,  shaped_tn, shaped_hd, shaped_r, decide_eq_true_eq, sizeLine_eq, Nat.reduceLeDiff, Int.reduceToNat, Int.reducePow, Int.reduceMul, Int.reduceAdd, Int.reduceSub, Int.reduceNeg, Int.reduceMod, setM_same, MO.lst.injEq, setM_setM, ix0, ix1, ix2, ix3, ix4, dPick, keyOf, dSlT, dTupRng, gAppend, dAppend, g2B, dM1, eqv_tn, eqv_tnl, shaped_l, dSlM, g1N, dIsi, tyD, gListD, gListM, gTupleM, sPar, dgPair, isT_it, isT_is, isT_ib, isT_ii, isT_tt, gInS, sTry, xCall, xSeq, xIf, xThen, xRaise, dIsE, dNum, dRep1, gAddT, isT_ss, isT_st, isT_ts, dLstRng, sAugI, g3A]
      refine ⟨p, _, _, _, rfl, by decide, setM_same, d4, by omega, fun w5 o5 l5 u5 d5 => ?_⟩
      try simp only [sSeq, sAsg, sRet, sIf, sDrop, sNext, sNever, dOp, dUn, dVar, dC, dTest, isBool, dAnd, dOr, dNot, dAndV, dOrV, dNotV, dIf, dCons, dNil, dTup, dLst, dLstM, datas, dCall, dCB, gI0, gI, gB0, g1I, gAdd, gEqD, gNeD, gIx, gIn, g1A, g2A, gInt, gLen, gTuple, gSum, gBest, dSl, dNoPart, dPart, dgName, dgTup, dgCons, dgNil, dgSub, gSetI, dIndexT, dChain, startD, List.map_cons, List.map_nil, List.length_cons, List.length_nil, List.replicate, List.append, List.cons_append, List.nil_append, List.getElem?_cons_zero, List.getElem?_cons_succ, List.set_cons_zero, List.set_cons_succ, Option.some.injEq, Dv.d.injEq, Dv.r.injEq, PyData.tuple.injEq, PyData.list.injEq, PyData.str.injEq, PyData.int.injEq, exists_eq_left', Option.map_some, Nat.zero_add, Nat.reduceAdd, Nat.reduceSub, true_and, and_true, exists_and_left, at0, at1, at2, at3, at4, eqv_int, shaped_int, eqv_pr, shaped_pr, bes, intsD, in4, flat4, flatI, Bool.not_eq_true', decide_eq_false_iff_not, not_true_eq_false, if_true, if_false, Bool.not_true, Bool.not_false, Bool.false_eq_true, Bool.true_eq_false, Bool.or_eq_false_iff,  shaped_tn, shaped_hd, shaped_r, decide_eq_true_eq, sizeLine_eq, Nat.reduceLeDiff, Int.reduceToNat, Int.reducePow, Int.reduceMul, Int.reduceAdd, Int.reduceSub, Int.reduceNeg, Int.reduceMod, setM_same, MO.lst.injEq, setM_setM, ix0, ix1, ix2, ix3, ix4, dPick, keyOf, dSlT, dTupRng, gAppend, dAppend, g2B, dM1, eqv_tn, eqv_tnl, shaped_l, dSlM, g1N, dIsi, tyD, gListD, gListM, gTupleM, sPar, dgPair, isT_it, isT_is, isT_ib, isT_ii, isT_tt, gInS, sTry, xCall, xSeq, xIf, xThen, xRaise, dIsE, dNum, dRep1, gAddT, isT_ss, isT_st, isT_ts, dLstRng, sAugI, g3A]
      refine ⟨p, _, _, _, rfl, by decide, setM_same, d5, by omega, fun w6 o6 l6 u6 d6 => ?_⟩
      obtain ⟨df, mdf, edf⟩ := at_mem (ns := [0, w5, 2]) l6 u6
      simp only [List.map_cons, List.map_nil] at edf
      simp only [List.mem_cons, List.not_mem_nil, or_false] at mdf
      try simp only [sSeq, sAsg, sRet, sIf, sDrop, sNext, sNever, dOp, dUn, dVar, dC, dTest, isBool, dAnd, dOr, dNot, dAndV, dOrV, dNotV, dIf, dCons, dNil, dTup, dLst, dLstM, datas, dCall, dCB, gI0, gI, gB0, g1I, gAdd, gEqD, gNeD, gIx, gIn, g1A, g2A, gInt, gLen, gTuple, gSum, gBest, dSl, dNoPart, dPart, dgName, dgTup, dgCons, dgNil, dgSub, gSetI, dIndexT, dChain, startD, List.map_cons, List.map_nil, List.length_cons, List.length_nil, List.replicate, List.append, List.cons_append, List.nil_append, List.getElem?_cons_zero, List.getElem?_cons_succ, List.set_cons_zero, List.set_cons_succ, Option.some.injEq, Dv.d.injEq, Dv.r.injEq, PyData.tuple.injEq, PyData.list.injEq, PyData.str.injEq, PyData.int.injEq, exists_eq_left', Option.map_some, Nat.zero_add, Nat.reduceAdd, Nat.reduceSub, true_and, and_true, exists_and_left, at0, at1, at2, at3, at4, eqv_int, shaped_int, eqv_pr, shaped_pr, bes, intsD, in4, flat4, flatI, Bool.not_eq_true', decide_eq_false_iff_not, not_true_eq_false, if_true, if_false, Bool.not_true, Bool.not_false, Bool.false_eq_true, Bool.true_eq_false, Bool.or_eq_false_iff,  shaped_tn, shaped_hd, shaped_r, decide_eq_true_eq, sizeLine_eq, Nat.reduceLeDiff, Int.reduceToNat, Int.reducePow, Int.reduceMul, Int.reduceAdd, Int.reduceSub, Int.reduceNeg, Int.reduceMod, setM_same, MO.lst.injEq, setM_setM, ix0, ix1, ix2, ix3, ix4, dPick, keyOf, dSlT, dTupRng, gAppend, dAppend, g2B, dM1, eqv_tn, eqv_tnl, shaped_l, dSlM, g1N, dIsi, tyD, gListD, gListM, gTupleM, sPar, dgPair, isT_it, isT_is, isT_ib, isT_ii, isT_tt, gInS, sTry, xCall, xSeq, xIf, xThen, xRaise, dIsE, dNum, dRep1, gAddT, isT_ss, isT_st, isT_ts, dLstRng, sAugI, g3A]
      refine ⟨_, edf, ?_⟩
      try simp only [sSeq, sAsg, sRet, sIf, sDrop, sNext, sNever, dOp, dUn, dVar, dC, dTest, isBool, dAnd, dOr, dNot, dAndV, dOrV, dNotV, dIf, dCons, dNil, dTup, dLst, dLstM, datas, dCall, dCB, gI0, gI, gB0, g1I, gAdd, gEqD, gNeD, gIx, gIn, g1A, g2A, gInt, gLen, gTuple, gSum, gBest, dSl, dNoPart, dPart, dgName, dgTup, dgCons, dgNil, dgSub, gSetI, dIndexT, dChain, startD, List.map_cons, List.map_nil, List.length_cons, List.length_nil, List.replicate, List.append, List.cons_append, List.nil_append, List.getElem?_cons_zero, List.getElem?_cons_succ, List.set_cons_zero, List.set_cons_succ, Option.some.injEq, Dv.d.injEq, Dv.r.injEq, PyData.tuple.injEq, PyData.list.injEq, PyData.str.injEq, PyData.int.injEq, exists_eq_left', Option.map_some, Nat.zero_add, Nat.reduceAdd, Nat.reduceSub, true_and, and_true, exists_and_left, at0, at1, at2, at3, at4, eqv_int, shaped_int, eqv_pr, shaped_pr, bes, intsD, in4, flat4, flatI, Bool.not_eq_true', decide_eq_false_iff_not, not_true_eq_false, if_true, if_false, Bool.not_true, Bool.not_false, Bool.false_eq_true, Bool.true_eq_false, Bool.or_eq_false_iff,  shaped_tn, shaped_hd, shaped_r, decide_eq_true_eq, sizeLine_eq, Nat.reduceLeDiff, Int.reduceToNat, Int.reducePow, Int.reduceMul, Int.reduceAdd, Int.reduceSub, Int.reduceNeg, Int.reduceMod, setM_same, MO.lst.injEq, setM_setM, ix0, ix1, ix2, ix3, ix4, dPick, keyOf, dSlT, dTupRng, gAppend, dAppend, g2B, dM1, eqv_tn, eqv_tnl, shaped_l, dSlM, g1N, dIsi, tyD, gListD, gListM, gTupleM, sPar, dgPair, isT_it, isT_is, isT_ib, isT_ii, isT_tt, gInS, sTry, xCall, xSeq, xIf, xThen, xRaise, dIsE, dNum, dRep1, gAddT, isT_ss, isT_st, isT_ts, dLstRng, sAugI, g3A]
      refine ⟨p, _, _, _, rfl, by decide, setM_same, d6, by omega, fun w7 o7 l7 u7 d7 => ?_⟩
      try simp only [sSeq, sAsg, sRet, sIf, sDrop, sNext, sNever, dOp, dUn, dVar, dC, dTest, isBool, dAnd, dOr, dNot, dAndV, dOrV, dNotV, dIf, dCons, dNil, dTup, dLst, dLstM, datas, dCall, dCB, gI0, gI, gB0, g1I, gAdd, gEqD, gNeD, gIx, gIn, g1A, g2A, gInt, gLen, gTuple, gSum, gBest, dSl, dNoPart, dPart, dgName, dgTup, dgCons, dgNil, dgSub, gSetI, dIndexT, dChain, startD, List.map_cons, List.map_nil, List.length_cons, List.length_nil, List.replicate, List.append, List.cons_append, List.nil_append, List.getElem?_cons_zero, List.getElem?_cons_succ, List.set_cons_zero, List.set_cons_succ, Option.some.injEq, Dv.d.injEq, Dv.r.injEq, PyData.tuple.injEq, PyData.list.injEq, PyData.str.injEq, PyData.int.injEq, exists_eq_left', Option.map_some, Nat.zero_add, Nat.reduceAdd, Nat.reduceSub, true_and, and_true, exists_and_left, at0, at1, at2, at3, at4, eqv_int, shaped_int, eqv_pr, shaped_pr, bes, intsD, in4, flat4, flatI, Bool.not_eq_true', decide_eq_false_iff_not, not_true_eq_false, if_true, if_false, Bool.not_true, Bool.not_false, Bool.false_eq_true, Bool.true_eq_false, Bool.or_eq_false_iff,  shaped_tn, shaped_hd, shaped_r, decide_eq_true_eq, sizeLine_eq, Nat.reduceLeDiff, Int.reduceToNat, Int.reducePow, Int.reduceMul, Int.reduceAdd, Int.reduceSub, Int.reduceNeg, Int.reduceMod, setM_same, MO.lst.injEq, setM_setM, ix0, ix1, ix2, ix3, ix4, dPick, keyOf, dSlT, dTupRng, gAppend, dAppend, g2B, dM1, eqv_tn, eqv_tnl, shaped_l, dSlM, g1N, dIsi, tyD, gListD, gListM, gTupleM, sPar, dgPair, isT_it, isT_is, isT_ib, isT_ii, isT_tt, gInS, sTry, xCall, xSeq, xIf, xThen, xRaise, dIsE, dNum, dRep1, gAddT, isT_ss, isT_st, isT_ts, dLstRng, sAugI, g3A]
      refine ⟨p, _, _, _, rfl, by decide, setM_same, d7, by omega, fun w8 o8 l8 u8 d8 => ?_⟩
      obtain ⟨mn, mmn, emn⟩ := at_mem (ns := [w7, 300, 0, 1]) l8 u8
      simp only [List.map_cons, List.map_nil] at emn
      simp only [List.mem_cons, List.not_mem_nil, or_false] at mmn
      try simp only [sSeq, sAsg, sRet, sIf, sDrop, sNext, sNever, dOp, dUn, dVar, dC, dTest, isBool, dAnd, dOr, dNot, dAndV, dOrV, dNotV, dIf, dCons, dNil, dTup, dLst, dLstM, datas, dCall, dCB, gI0, gI, gB0, g1I, gAdd, gEqD, gNeD, gIx, gIn, g1A, g2A, gInt, gLen, gTuple, gSum, gBest, dSl, dNoPart, dPart, dgName, dgTup, dgCons, dgNil, dgSub, gSetI, dIndexT, dChain, startD, List.map_cons, List.map_nil, List.length_cons, List.length_nil, List.replicate, List.append, List.cons_append, List.nil_append, List.getElem?_cons_zero, List.getElem?_cons_succ, List.set_cons_zero, List.set_cons_succ, Option.some.injEq, Dv.d.injEq, Dv.r.injEq, PyData.tuple.injEq, PyData.list.injEq, PyData.str.injEq, PyData.int.injEq, exists_eq_left', Option.map_some, Nat.zero_add, Nat.reduceAdd, Nat.reduceSub, true_and, and_true, exists_and_left, at0, at1, at2, at3, at4, eqv_int, shaped_int, eqv_pr, shaped_pr, bes, intsD, in4, flat4, flatI, Bool.not_eq_true', decide_eq_false_iff_not, not_true_eq_false, if_true, if_false, Bool.not_true, Bool.not_false, Bool.false_eq_true, Bool.true_eq_false, Bool.or_eq_false_iff,  shaped_tn, shaped_hd, shaped_r, decide_eq_true_eq, sizeLine_eq, Nat.reduceLeDiff, Int.reduceToNat, Int.reducePow, Int.reduceMul, Int.reduceAdd, Int.reduceSub, Int.reduceNeg, Int.reduceMod, setM_same, MO.lst.injEq, setM_setM, ix0, ix1, ix2, ix3, ix4, dPick, keyOf, dSlT, dTupRng, gAppend, dAppend, g2B, dM1, eqv_tn, eqv_tnl, shaped_l, dSlM, g1N, dIsi, tyD, gListD, gListM, gTupleM, sPar, dgPair, isT_it, isT_is, isT_ib, isT_ii, isT_tt, gInS, sTry, xCall, xSeq, xIf, xThen, xRaise, dIsE, dNum, dRep1, gAddT, isT_ss, isT_st, isT_ts, dLstRng, sAugI, g3A]
      refine ⟨_, emn, ?_⟩
      try simp only [sSeq, sAsg, sRet, sIf, sDrop, sNext, sNever, dOp, dUn, dVar, dC, dTest, isBool, dAnd, dOr, dNot, dAndV, dOrV, dNotV, dIf, dCons, dNil, dTup, dLst, dLstM, datas, dCall, dCB, gI0, gI, gB0, g1I, gAdd, gEqD, gNeD, gIx, gIn, g1A, g2A, gInt, gLen, gTuple, gSum, gBest, dSl, dNoPart, dPart, dgName, dgTup, dgCons, dgNil, dgSub, gSetI, dIndexT, dChain, startD, List.map_cons, List.map_nil, List.length_cons, List.length_nil, List.replicate, List.append, List.cons_append, List.nil_append, List.getElem?_cons_zero, List.getElem?_cons_succ, List.set_cons_zero, List.set_cons_succ, Option.some.injEq, Dv.d.injEq, Dv.r.injEq, PyData.tuple.injEq, PyData.list.injEq, PyData.str.injEq, PyData.int.injEq, exists_eq_left', Option.map_some, Nat.zero_add, Nat.reduceAdd, Nat.reduceSub, true_and, and_true, exists_and_left, at0, at1, at2, at3, at4, eqv_int, shaped_int, eqv_pr, shaped_pr, bes, intsD, in4, flat4, flatI, Bool.not_eq_true', decide_eq_false_iff_not, not_true_eq_false, if_true, if_false, Bool.not_true, Bool.not_false, Bool.false_eq_true, Bool.true_eq_false, Bool.or_eq_false_iff,  shaped_tn, shaped_hd, shaped_r, decide_eq_true_eq, sizeLine_eq, Nat.reduceLeDiff, Int.reduceToNat, Int.reducePow, Int.reduceMul, Int.reduceAdd, Int.reduceSub, Int.reduceNeg, Int.reduceMod, setM_same, MO.lst.injEq, setM_setM, ix0, ix1, ix2, ix3, ix4, dPick, keyOf, dSlT, dTupRng, gAppend, dAppend, g2B, dM1, eqv_tn, eqv_tnl, shaped_l, dSlM, g1N, dIsi, tyD, gListD, gListM, gTupleM, sPar, dgPair, isT_it, isT_is, isT_ib, isT_ii, isT_tt, gInS, sTry, xCall, xSeq, xIf, xThen, xRaise, dIsE, dNum, dRep1, gAddT, isT_ss, isT_st, isT_ts, dLstRng, sAugI, g3A]
      by_cases c0 : ((i : Nat) : Int) = 0
      · rw [if_pos c0]
        refine ⟨p, _, _, _, rfl, by decide, setM_same, d8, by omega, fun wA oA lA uA dA => ?_⟩
        try simp only [sSeq, sAsg, sRet, sIf, sDrop, sNext, sNever, dOp, dUn, dVar, dC, dTest, isBool, dAnd, dOr, dNot, dAndV, dOrV, dNotV, dIf, dCons, dNil, dTup, dLst, dLstM, datas, dCall, dCB, gI0, gI, gB0, g1I, gAdd, gEqD, gNeD, gIx, gIn, g1A, g2A, gInt, gLen, gTuple, gSum, gBest, dSl, dNoPart, dPart, dgName, dgTup, dgCons, dgNil, dgSub, gSetI, dIndexT, dChain, startD, List.map_cons, List.map_nil, List.length_cons, List.length_nil, List.replicate, List.append, List.cons_append, List.nil_append, List.getElem?_cons_zero, List.getElem?_cons_succ, List.set_cons_zero, List.set_cons_succ, Option.some.injEq, Dv.d.injEq, Dv.r.injEq, PyData.tuple.injEq, PyData.list.injEq, PyData.str.injEq, PyData.int.injEq, exists_eq_left', Option.map_some, Nat.zero_add, Nat.reduceAdd, Nat.reduceSub, true_and, and_true, exists_and_left, at0, at1, at2, at3, at4, eqv_int, shaped_int, eqv_pr, shaped_pr, bes, intsD, in4, flat4, flatI, Bool.not_eq_true', decide_eq_false_iff_not, not_true_eq_false, if_true, if_false, Bool.not_true, Bool.not_false, Bool.false_eq_true, Bool.true_eq_false, Bool.or_eq_false_iff,  shaped_tn, shaped_hd, shaped_r, decide_eq_true_eq, sizeLine_eq, Nat.reduceLeDiff, Int.reduceToNat, Int.reducePow, Int.reduceMul, Int.reduceAdd, Int.reduceSub, Int.reduceNeg, Int.reduceMod, setM_same, MO.lst.injEq, setM_setM, ix0, ix1, ix2, ix3, ix4, dPick, keyOf, dSlT, dTupRng, gAppend, dAppend, g2B, dM1, eqv_tn, eqv_tnl, shaped_l, dSlM, g1N, dIsi, tyD, gListD, gListM, gTupleM, sPar, dgPair, isT_it, isT_is, isT_ib, isT_ii, isT_tt, gInS, sTry, xCall, xSeq, xIf, xThen, xRaise, dIsE, dNum, dRep1, gAddT, isT_ss, isT_st, isT_ts, dLstRng, sAugI, g3A]
        by_cases cA : wA = 0
        · rw [if_pos cA]
          repeat (refine And.intro (by first | (show CPow _ _; unfold CPow; decide) | (show CMul _ _; unfold CMul; omega) | (show CDivB _ _; unfold CDivB; omega) | decide | omega | exact ⟨_, rfl⟩) ?_)
          refine ⟨p, _, _, _, rfl, by decide, setM_same, dA, by omega, fun w9 o9 l9 u9 d9 => ?_⟩
          try simp only [sSeq, sAsg, sRet, sIf, sDrop, sNext, sNever, dOp, dUn, dVar, dC, dTest, isBool, dAnd, dOr, dNot, dAndV, dOrV, dNotV, dIf, dCons, dNil, dTup, dLst, dLstM, datas, dCall, dCB, gI0, gI, gB0, g1I, gAdd, gEqD, gNeD, gIx, gIn, g1A, g2A, gInt, gLen, gTuple, gSum, gBest, dSl, dNoPart, dPart, dgName, dgTup, dgCons, dgNil, dgSub, gSetI, dIndexT, dChain, startD, List.map_cons, List.map_nil, List.length_cons, List.length_nil, List.replicate, List.append, List.cons_append, List.nil_append, List.getElem?_cons_zero, List.getElem?_cons_succ, List.set_cons_zero, List.set_cons_succ, Option.some.injEq, Dv.d.injEq, Dv.r.injEq, PyData.tuple.injEq, PyData.list.injEq, PyData.str.injEq, PyData.int.injEq, exists_eq_left', Option.map_some, Nat.zero_add, Nat.reduceAdd, Nat.reduceSub, true_and, and_true, exists_and_left, at0, at1, at2, at3, at4, eqv_int, shaped_int, eqv_pr, shaped_pr, bes, intsD, in4, flat4, flatI, Bool.not_eq_true', decide_eq_false_iff_not, not_true_eq_false, if_true, if_false, Bool.not_true, Bool.not_false, Bool.false_eq_true, Bool.true_eq_false, Bool.or_eq_false_iff,  shaped_tn, shaped_hd, shaped_r, decide_eq_true_eq, sizeLine_eq, Nat.reduceLeDiff, Int.reduceToNat, Int.reducePow, Int.reduceMul, Int.reduceAdd, Int.reduceSub, Int.reduceNeg, Int.reduceMod, setM_same, MO.lst.injEq, setM_setM, ix0, ix1, ix2, ix3, ix4, dPick, keyOf, dSlT, dTupRng, gAppend, dAppend, g2B, dM1, eqv_tn, eqv_tnl, shaped_l, dSlM, g1N, dIsi, tyD, gListD, gListM, gTupleM, sPar, dgPair, isT_it, isT_is, isT_ib, isT_ii, isT_tt, gInS, sTry, xCall, xSeq, xIf, xThen, xRaise, dIsE, dNum, dRep1, gAddT, isT_ss, isT_st, isT_ts, dLstRng, sAugI, g3A]
          have hz : (if 10000 = (0 : Int) then (1 : Int) else 0) = 0 ∨ (if 10000 = (0 : Int) then (1 : Int) else 0) = 1 := by split <;> simp
          generalize (if 10000 = (0 : Int) then (1 : Int) else 0) = e0 at *
          have hm9 : 0 ≤ e0 * w9 ∧ e0 * w9 ≤ 4 := by rcases hz with rfl | rfl <;> omega
          refine ⟨by unfold CMul; omega, ?_⟩
          try simp only [sSeq, sAsg, sRet, sIf, sDrop, sNext, sNever, dOp, dUn, dVar, dC, dTest, isBool, dAnd, dOr, dNot, dAndV, dOrV, dNotV, dIf, dCons, dNil, dTup, dLst, dLstM, datas, dCall, dCB, gI0, gI, gB0, g1I, gAdd, gEqD, gNeD, gIx, gIn, g1A, g2A, gInt, gLen, gTuple, gSum, gBest, dSl, dNoPart, dPart, dgName, dgTup, dgCons, dgNil, dgSub, gSetI, dIndexT, dChain, startD, List.map_cons, List.map_nil, List.length_cons, List.length_nil, List.replicate, List.append, List.cons_append, List.nil_append, List.getElem?_cons_zero, List.getElem?_cons_succ, List.set_cons_zero, List.set_cons_succ, Option.some.injEq, Dv.d.injEq, Dv.r.injEq, PyData.tuple.injEq, PyData.list.injEq, PyData.str.injEq, PyData.int.injEq, exists_eq_left', Option.map_some, Nat.zero_add, Nat.reduceAdd, Nat.reduceSub, true_and, and_true, exists_and_left, at0, at1, at2, at3, at4, eqv_int, shaped_int, eqv_pr, shaped_pr, bes, intsD, in4, flat4, flatI, Bool.not_eq_true', decide_eq_false_iff_not, not_true_eq_false, if_true, if_false, Bool.not_true, Bool.not_false, Bool.false_eq_true, Bool.true_eq_false, Bool.or_eq_false_iff,  shaped_tn, shaped_hd, shaped_r, decide_eq_true_eq, sizeLine_eq, Nat.reduceLeDiff, Int.reduceToNat, Int.reducePow, Int.reduceMul, Int.reduceAdd, Int.reduceSub, Int.reduceNeg, Int.reduceMod, setM_same, MO.lst.injEq, setM_setM, ix0, ix1, ix2, ix3, ix4, dPick, keyOf, dSlT, dTupRng, gAppend, dAppend, g2B, dM1, eqv_tn, eqv_tnl, shaped_l, dSlM, g1N, dIsi, tyD, gListD, gListM, gTupleM, sPar, dgPair, isT_it, isT_is, isT_ib, isT_ii, isT_tt, gInS, sTry, xCall, xSeq, xIf, xThen, xRaise, dIsE, dNum, dRep1, gAddT, isT_ss, isT_st, isT_ts, dLstRng, sAugI, g3A]
          generalize e0 * w9 = x9 at *
          have hm3 := max3_spec (be - df) s s2
          refine ⟨s, q, r, s2, q2, r2, be - df, _, rfl, hq, hq2, by omega, ?_⟩
          refine ⟨s, q, r, s2, q2, r2, be - df, _, rfl, hq, hq2, by omega, ?_⟩
          have hfl := ft_len (max3 (be - df) s s2) (be - df + 10000 - 1 - x9 + 1 - max3 (be - df) s s2).toNat (sameN s q r s2 q2 r2)
          refine ⟨_, rfl, .inr (.inr ⟨_, by rw [List.length_map]; omega, fun x hx => ?_, rfl⟩), ?_⟩
          · obtain ⟨n, _, rfl⟩ := List.mem_map.mp hx
            exact flt_i n
          · try simp only [sSeq, sAsg, sRet, sIf, sDrop, sNext, sNever, dOp, dUn, dVar, dC, dTest, isBool, dAnd, dOr, dNot, dAndV, dOrV, dNotV, dIf, dCons, dNil, dTup, dLst, dLstM, datas, dCall, dCB, gI0, gI, gB0, g1I, gAdd, gEqD, gNeD, gIx, gIn, g1A, g2A, gInt, gLen, gTuple, gSum, gBest, dSl, dNoPart, dPart, dgName, dgTup, dgCons, dgNil, dgSub, gSetI, dIndexT, dChain, startD, List.map_cons, List.map_nil, List.length_cons, List.length_nil, List.replicate, List.append, List.cons_append, List.nil_append, List.getElem?_cons_zero, List.getElem?_cons_succ, List.set_cons_zero, List.set_cons_succ, Option.some.injEq, Dv.d.injEq, Dv.r.injEq, PyData.tuple.injEq, PyData.list.injEq, PyData.str.injEq, PyData.int.injEq, exists_eq_left', Option.map_some, Nat.zero_add, Nat.reduceAdd, Nat.reduceSub, true_and, and_true, exists_and_left, at0, at1, at2, at3, at4, eqv_int, shaped_int, eqv_pr, shaped_pr, bes, intsD, in4, flat4, flatI, Bool.not_eq_true', decide_eq_false_iff_not, not_true_eq_false, if_true, if_false, Bool.not_true, Bool.not_false, Bool.false_eq_true, Bool.true_eq_false, Bool.or_eq_false_iff,  shaped_tn, shaped_hd, shaped_r, decide_eq_true_eq, sizeLine_eq, Nat.reduceLeDiff, Int.reduceToNat, Int.reducePow, Int.reduceMul, Int.reduceAdd, Int.reduceSub, Int.reduceNeg, Int.reduceMod, setM_same, MO.lst.injEq, setM_setM, ix0, ix1, ix2, ix3, ix4, dPick, keyOf, dSlT, dTupRng, gAppend, dAppend, g2B, dM1, eqv_tn, eqv_tnl, shaped_l, dSlM, g1N, dIsi, tyD, gListD, gListM, gTupleM, sPar, dgPair, isT_it, isT_is, isT_ib, isT_ii, isT_tt, gInS, sTry, xCall, xSeq, xIf, xThen, xRaise, dIsE, dNum, dRep1, gAddT, isT_ss, isT_st, isT_ts, dLstRng, sAugI, g3A]
            exact ⟨_, _, _, _, _, _, _, _, rfl, o9, rfl, d9.mono (by omega)⟩
        · rw [if_neg cA]
          refine ⟨p, _, _, _, rfl, by decide, setM_same, dA, by omega, fun w9 o9 l9 u9 d9 => ?_⟩
          try simp only [sSeq, sAsg, sRet, sIf, sDrop, sNext, sNever, dOp, dUn, dVar, dC, dTest, isBool, dAnd, dOr, dNot, dAndV, dOrV, dNotV, dIf, dCons, dNil, dTup, dLst, dLstM, datas, dCall, dCB, gI0, gI, gB0, g1I, gAdd, gEqD, gNeD, gIx, gIn, g1A, g2A, gInt, gLen, gTuple, gSum, gBest, dSl, dNoPart, dPart, dgName, dgTup, dgCons, dgNil, dgSub, gSetI, dIndexT, dChain, startD, List.map_cons, List.map_nil, List.length_cons, List.length_nil, List.replicate, List.append, List.cons_append, List.nil_append, List.getElem?_cons_zero, List.getElem?_cons_succ, List.set_cons_zero, List.set_cons_succ, Option.some.injEq, Dv.d.injEq, Dv.r.injEq, PyData.tuple.injEq, PyData.list.injEq, PyData.str.injEq, PyData.int.injEq, exists_eq_left', Option.map_some, Nat.zero_add, Nat.reduceAdd, Nat.reduceSub, true_and, and_true, exists_and_left, at0, at1, at2, at3, at4, eqv_int, shaped_int, eqv_pr, shaped_pr, bes, intsD, in4, flat4, flatI, Bool.not_eq_true', decide_eq_false_iff_not, not_true_eq_false, if_true, if_false, Bool.not_true, Bool.not_false, Bool.false_eq_true, Bool.true_eq_false, Bool.or_eq_false_iff,  shaped_tn, shaped_hd, shaped_r, decide_eq_true_eq, sizeLine_eq, Nat.reduceLeDiff, Int.reduceToNat, Int.reducePow, Int.reduceMul, Int.reduceAdd, Int.reduceSub, Int.reduceNeg, Int.reduceMod, setM_same, MO.lst.injEq, setM_setM, ix0, ix1, ix2, ix3, ix4, dPick, keyOf, dSlT, dTupRng, gAppend, dAppend, g2B, dM1, eqv_tn, eqv_tnl, shaped_l, dSlM, g1N, dIsi, tyD, gListD, gListM, gTupleM, sPar, dgPair, isT_it, isT_is, isT_ib, isT_ii, isT_tt, gInS, sTry, xCall, xSeq, xIf, xThen, xRaise, dIsE, dNum, dRep1, gAddT, isT_ss, isT_st, isT_ts, dLstRng, sAugI, g3A]
          have hz : (if mn = (0 : Int) then (1 : Int) else 0) = 0 ∨ (if mn = (0 : Int) then (1 : Int) else 0) = 1 := by split <;> simp
          generalize (if mn = (0 : Int) then (1 : Int) else 0) = e0 at *
          have hm9 : 0 ≤ e0 * w9 ∧ e0 * w9 ≤ 4 := by rcases hz with rfl | rfl <;> omega
          refine ⟨by unfold CMul; omega, ?_⟩
          try simp only [sSeq, sAsg, sRet, sIf, sDrop, sNext, sNever, dOp, dUn, dVar, dC, dTest, isBool, dAnd, dOr, dNot, dAndV, dOrV, dNotV, dIf, dCons, dNil, dTup, dLst, dLstM, datas, dCall, dCB, gI0, gI, gB0, g1I, gAdd, gEqD, gNeD, gIx, gIn, g1A, g2A, gInt, gLen, gTuple, gSum, gBest, dSl, dNoPart, dPart, dgName, dgTup, dgCons, dgNil, dgSub, gSetI, dIndexT, dChain, startD, List.map_cons, List.map_nil, List.length_cons, List.length_nil, List.replicate, List.append, List.cons_append, List.nil_append, List.getElem?_cons_zero, List.getElem?_cons_succ, List.set_cons_zero, List.set_cons_succ, Option.some.injEq, Dv.d.injEq, Dv.r.injEq, PyData.tuple.injEq, PyData.list.injEq, PyData.str.injEq, PyData.int.injEq, exists_eq_left', Option.map_some, Nat.zero_add, Nat.reduceAdd, Nat.reduceSub, true_and, and_true, exists_and_left, at0, at1, at2, at3, at4, eqv_int, shaped_int, eqv_pr, shaped_pr, bes, intsD, in4, flat4, flatI, Bool.not_eq_true', decide_eq_false_iff_not, not_true_eq_false, if_true, if_false, Bool.not_true, Bool.not_false, Bool.false_eq_true, Bool.true_eq_false, Bool.or_eq_false_iff,  shaped_tn, shaped_hd, shaped_r, decide_eq_true_eq, sizeLine_eq, Nat.reduceLeDiff, Int.reduceToNat, Int.reducePow, Int.reduceMul, Int.reduceAdd, Int.reduceSub, Int.reduceNeg, Int.reduceMod, setM_same, MO.lst.injEq, setM_setM, ix0, ix1, ix2, ix3, ix4, dPick, keyOf, dSlT, dTupRng, gAppend, dAppend, g2B, dM1, eqv_tn, eqv_tnl, shaped_l, dSlM, g1N, dIsi, tyD, gListD, gListM, gTupleM, sPar, dgPair, isT_it, isT_is, isT_ib, isT_ii, isT_tt, gInS, sTry, xCall, xSeq, xIf, xThen, xRaise, dIsE, dNum, dRep1, gAddT, isT_ss, isT_st, isT_ts, dLstRng, sAugI, g3A]
          generalize e0 * w9 = x9 at *
          have hm3 := max3_spec (be - df) s s2
          refine ⟨s, q, r, s2, q2, r2, be - df, _, rfl, hq, hq2, by omega, ?_⟩
          refine ⟨s, q, r, s2, q2, r2, be - df, _, rfl, hq, hq2, by omega, ?_⟩
          have hfl := ft_len (max3 (be - df) s s2) (be - df + mn - 1 - x9 + 1 - max3 (be - df) s s2).toNat (sameN s q r s2 q2 r2)
          refine ⟨_, rfl, .inr (.inr ⟨_, by rw [List.length_map]; omega, fun x hx => ?_, rfl⟩), ?_⟩
          · obtain ⟨n, _, rfl⟩ := List.mem_map.mp hx
            exact flt_i n
          · try simp only [sSeq, sAsg, sRet, sIf, sDrop, sNext, sNever, dOp, dUn, dVar, dC, dTest, isBool, dAnd, dOr, dNot, dAndV, dOrV, dNotV, dIf, dCons, dNil, dTup, dLst, dLstM, datas, dCall, dCB, gI0, gI, gB0, g1I, gAdd, gEqD, gNeD, gIx, gIn, g1A, g2A, gInt, gLen, gTuple, gSum, gBest, dSl, dNoPart, dPart, dgName, dgTup, dgCons, dgNil, dgSub, gSetI, dIndexT, dChain, startD, List.map_cons, List.map_nil, List.length_cons, List.length_nil, List.replicate, List.append, List.cons_append, List.nil_append, List.getElem?_cons_zero, List.getElem?_cons_succ, List.set_cons_zero, List.set_cons_succ, Option.some.injEq, Dv.d.injEq, Dv.r.injEq, PyData.tuple.injEq, PyData.list.injEq, PyData.str.injEq, PyData.int.injEq, exists_eq_left', Option.map_some, Nat.zero_add, Nat.reduceAdd, Nat.reduceSub, true_and, and_true, exists_and_left, at0, at1, at2, at3, at4, eqv_int, shaped_int, eqv_pr, shaped_pr, bes, intsD, in4, flat4, flatI, Bool.not_eq_true', decide_eq_false_iff_not, not_true_eq_false, if_true, if_false, Bool.not_true, Bool.not_false, Bool.false_eq_true, Bool.true_eq_false, Bool.or_eq_false_iff,  shaped_tn, shaped_hd, shaped_r, decide_eq_true_eq, sizeLine_eq, Nat.reduceLeDiff, Int.reduceToNat, Int.reducePow, Int.reduceMul, Int.reduceAdd, Int.reduceSub, Int.reduceNeg, Int.reduceMod, setM_same, MO.lst.injEq, setM_setM, ix0, ix1, ix2, ix3, ix4, dPick, keyOf, dSlT, dTupRng, gAppend, dAppend, g2B, dM1, eqv_tn, eqv_tnl, shaped_l, dSlM, g1N, dIsi, tyD, gListD, gListM, gTupleM, sPar, dgPair, isT_it, isT_is, isT_ib, isT_ii, isT_tt, gInS, sTry, xCall, xSeq, xIf, xThen, xRaise, dIsE, dNum, dRep1, gAddT, isT_ss, isT_st, isT_ts, dLstRng, sAugI, g3A]
            exact ⟨_, _, _, _, _, _, _, _, rfl, o9, rfl, d9.mono (by omega)⟩
      · rw [if_neg c0]
        refine ⟨p, _, _, _, rfl, by decide, setM_same, d8, by omega, fun w9 o9 l9 u9 d9 => ?_⟩
        try simp only [sSeq, sAsg, sRet, sIf, sDrop, sNext, sNever, dOp, dUn, dVar, dC, dTest, isBool, dAnd, dOr, dNot, dAndV, dOrV, dNotV, dIf, dCons, dNil, dTup, dLst, dLstM, datas, dCall, dCB, gI0, gI, gB0, g1I, gAdd, gEqD, gNeD, gIx, gIn, g1A, g2A, gInt, gLen, gTuple, gSum, gBest, dSl, dNoPart, dPart, dgName, dgTup, dgCons, dgNil, dgSub, gSetI, dIndexT, dChain, startD, List.map_cons, List.map_nil, List.length_cons, List.length_nil, List.replicate, List.append, List.cons_append, List.nil_append, List.getElem?_cons_zero, List.getElem?_cons_succ, List.set_cons_zero, List.set_cons_succ, Option.some.injEq, Dv.d.injEq, Dv.r.injEq, PyData.tuple.injEq, PyData.list.injEq, PyData.str.injEq, PyData.int.injEq, exists_eq_left', Option.map_some, Nat.zero_add, Nat.reduceAdd, Nat.reduceSub, true_and, and_true, exists_and_left, at0, at1, at2, at3, at4, eqv_int, shaped_int, eqv_pr, shaped_pr, bes, intsD, in4, flat4, flatI, Bool.not_eq_true', decide_eq_false_iff_not, not_true_eq_false, if_true, if_false, Bool.not_true, Bool.not_false, Bool.false_eq_true, Bool.true_eq_false, Bool.or_eq_false_iff,  shaped_tn, shaped_hd, shaped_r, decide_eq_true_eq, sizeLine_eq, Nat.reduceLeDiff, Int.reduceToNat, Int.reducePow, Int.reduceMul, Int.reduceAdd, Int.reduceSub, Int.reduceNeg, Int.reduceMod, setM_same, MO.lst.injEq, setM_setM, ix0, ix1, ix2, ix3, ix4, dPick, keyOf, dSlT, dTupRng, gAppend, dAppend, g2B, dM1, eqv_tn, eqv_tnl, shaped_l, dSlM, g1N, dIsi, tyD, gListD, gListM, gTupleM, sPar, dgPair, isT_it, isT_is, isT_ib, isT_ii, isT_tt, gInS, sTry, xCall, xSeq, xIf, xThen, xRaise, dIsE, dNum, dRep1, gAddT, isT_ss, isT_st, isT_ts, dLstRng, sAugI, g3A]
        have hz : (if mn = (0 : Int) then (1 : Int) else 0) = 0 ∨ (if mn = (0 : Int) then (1 : Int) else 0) = 1 := by split <;> simp
        generalize (if mn = (0 : Int) then (1 : Int) else 0) = e0 at *
        have hm9 : 0 ≤ e0 * w9 ∧ e0 * w9 ≤ 4 := by rcases hz with rfl | rfl <;> omega
        refine ⟨by unfold CMul; omega, ?_⟩
        try simp only [sSeq, sAsg, sRet, sIf, sDrop, sNext, sNever, dOp, dUn, dVar, dC, dTest, isBool, dAnd, dOr, dNot, dAndV, dOrV, dNotV, dIf, dCons, dNil, dTup, dLst, dLstM, datas, dCall, dCB, gI0, gI, gB0, g1I, gAdd, gEqD, gNeD, gIx, gIn, g1A, g2A, gInt, gLen, gTuple, gSum, gBest, dSl, dNoPart, dPart, dgName, dgTup, dgCons, dgNil, dgSub, gSetI, dIndexT, dChain, startD, List.map_cons, List.map_nil, List.length_cons, List.length_nil, List.replicate, List.append, List.cons_append, List.nil_append, List.getElem?_cons_zero, List.getElem?_cons_succ, List.set_cons_zero, List.set_cons_succ, Option.some.injEq, Dv.d.injEq, Dv.r.injEq, PyData.tuple.injEq, PyData.list.injEq, PyData.str.injEq, PyData.int.injEq, exists_eq_left', Option.map_some, Nat.zero_add, Nat.reduceAdd, Nat.reduceSub, true_and, and_true, exists_and_left, at0, at1, at2, at3, at4, eqv_int, shaped_int, eqv_pr, shaped_pr, bes, intsD, in4, flat4, flatI, Bool.not_eq_true', decide_eq_false_iff_not, not_true_eq_false, if_true, if_false, Bool.not_true, Bool.not_false, Bool.false_eq_true, Bool.true_eq_false, Bool.or_eq_false_iff,  shaped_tn, shaped_hd, shaped_r, decide_eq_true_eq, sizeLine_eq, Nat.reduceLeDiff, Int.reduceToNat, Int.reducePow, Int.reduceMul, Int.reduceAdd, Int.reduceSub, Int.reduceNeg, Int.reduceMod, setM_same, MO.lst.injEq, setM_setM, ix0, ix1, ix2, ix3, ix4, dPick, keyOf, dSlT, dTupRng, gAppend, dAppend, g2B, dM1, eqv_tn, eqv_tnl, shaped_l, dSlM, g1N, dIsi, tyD, gListD, gListM, gTupleM, sPar, dgPair, isT_it, isT_is, isT_ib, isT_ii, isT_tt, gInS, sTry, xCall, xSeq, xIf, xThen, xRaise, dIsE, dNum, dRep1, gAddT, isT_ss, isT_st, isT_ts, dLstRng, sAugI, g3A]
        generalize e0 * w9 = x9 at *
        have hm3 := max3_spec (be - df) s s2
        refine ⟨s, q, r, s2, q2, r2, be - df, _, rfl, hq, hq2, by omega, ?_⟩
        refine ⟨s, q, r, s2, q2, r2, be - df, _, rfl, hq, hq2, by omega, ?_⟩
        have hfl := ft_len (max3 (be - df) s s2) (be - df + mn - 1 - x9 + 1 - max3 (be - df) s s2).toNat (sameN s q r s2 q2 r2)
        refine ⟨_, rfl, .inr (.inr ⟨_, by rw [List.length_map]; omega, fun x hx => ?_, rfl⟩), ?_⟩
        · obtain ⟨n, _, rfl⟩ := List.mem_map.mp hx
          exact flt_i n
        · try simp only [sSeq, sAsg, sRet, sIf, sDrop, sNext, sNever, dOp, dUn, dVar, dC, dTest, isBool, dAnd, dOr, dNot, dAndV, dOrV, dNotV, dIf, dCons, dNil, dTup, dLst, dLstM, datas, dCall, dCB, gI0, gI, gB0, g1I, gAdd, gEqD, gNeD, gIx, gIn, g1A, g2A, gInt, gLen, gTuple, gSum, gBest, dSl, dNoPart, dPart, dgName, dgTup, dgCons, dgNil, dgSub, gSetI, dIndexT, dChain, startD, List.map_cons, List.map_nil, List.length_cons, List.length_nil, List.replicate, List.append, List.cons_append, List.nil_append, List.getElem?_cons_zero, List.getElem?_cons_succ, List.set_cons_zero, List.set_cons_succ, Option.some.injEq, Dv.d.injEq, Dv.r.injEq, PyData.tuple.injEq, PyData.list.injEq, PyData.str.injEq, PyData.int.injEq, exists_eq_left', Option.map_some, Nat.zero_add, Nat.reduceAdd, Nat.reduceSub, true_and, and_true, exists_and_left, at0, at1, at2, at3, at4, eqv_int, shaped_int, eqv_pr, shaped_pr, bes, intsD, in4, flat4, flatI, Bool.not_eq_true', decide_eq_false_iff_not, not_true_eq_false, if_true, if_false, Bool.not_true, Bool.not_false, Bool.false_eq_true, Bool.true_eq_false, Bool.or_eq_false_iff,  shaped_tn, shaped_hd, shaped_r, decide_eq_true_eq, sizeLine_eq, Nat.reduceLeDiff, Int.reduceToNat, Int.reducePow, Int.reduceMul, Int.reduceAdd, Int.reduceSub, Int.reduceNeg, Int.reduceMod, setM_same, MO.lst.injEq, setM_setM, ix0, ix1, ix2, ix3, ix4, dPick, keyOf, dSlT, dTupRng, gAppend, dAppend, g2B, dM1, eqv_tn, eqv_tnl, shaped_l, dSlM, g1N, dIsi, tyD, gListD, gListM, gTupleM, sPar, dgPair, isT_it, isT_is, isT_ib, isT_ii, isT_tt, gInS, sTry, xCall, xSeq, xIf, xThen, xRaise, dIsE, dNum, dRep1, gAddT, isT_ss, isT_st, isT_ts, dLstRng, sAugI, g3A]
          exact ⟨_, _, _, _, _, _, _, _, rfl, o9, rfl, d9.mono (by omega)⟩
    · rintro δ m' ⟨v2, v3, v4, v5, v6, v7, v8, v9, o', rfl, rfl, hd'⟩
      try simp only [sSeq, sAsg, sRet, sIf, sDrop, sNext, sNever, dOp, dUn, dVar, dC, dTest, isBool, dAnd, dOr, dNot, dAndV, dOrV, dNotV, dIf, dCons, dNil, dTup, dLst, dLstM, datas, dCall, dCB, gI0, gI, gB0, g1I, gAdd, gEqD, gNeD, gIx, gIn, g1A, g2A, gInt, gLen, gTuple, gSum, gBest, dSl, dNoPart, dPart, dgName, dgTup, dgCons, dgNil, dgSub, gSetI, dIndexT, dChain, startD, List.map_cons, List.map_nil, List.length_cons, List.length_nil, List.replicate, List.append, List.cons_append, List.nil_append, List.getElem?_cons_zero, List.getElem?_cons_succ, List.set_cons_zero, List.set_cons_succ, Option.some.injEq, Dv.d.injEq, Dv.r.injEq, PyData.tuple.injEq, PyData.list.injEq, PyData.str.injEq, PyData.int.injEq, exists_eq_left', Option.map_some, Nat.zero_add, Nat.reduceAdd, Nat.reduceSub, true_and, and_true, exists_and_left, at0, at1, at2, at3, at4, eqv_int, shaped_int, eqv_pr, shaped_pr, bes, intsD, in4, flat4, flatI, Bool.not_eq_true', decide_eq_false_iff_not, not_true_eq_false, if_true, if_false, Bool.not_true, Bool.not_false, Bool.false_eq_true, Bool.true_eq_false, Bool.or_eq_false_iff,  shaped_tn, shaped_hd, shaped_r, decide_eq_true_eq, sizeLine_eq, Nat.reduceLeDiff, Int.reduceToNat, Int.reducePow, Int.reduceMul, Int.reduceAdd, Int.reduceSub, Int.reduceNeg, Int.reduceMod, setM_same, MO.lst.injEq, setM_setM, ix0, ix1, ix2, ix3, ix4, dPick, keyOf, dSlT, dTupRng, gAppend, dAppend, g2B, dM1, eqv_tn, eqv_tnl, shaped_l, dSlM, g1N, dIsi, tyD, gListD, gListM, gTupleM, sPar, dgPair, isT_it, isT_is, isT_ib, isT_ii, isT_tt, gInS, sTry, xCall, xSeq, xIf, xThen, xRaise, dIsE, dNum, dRep1, gAddT, isT_ss, isT_st, isT_ts, dLstRng, sAugI, g3A]
      refine ⟨1, 0, false, 1, 0, false, 2, 5, rfl, by decide, by decide, by decide, ?_⟩
      rw [show max3 2 1 1 = 2 by decide, show ((5 : Int) + 1 - 2).toNat = 4 by decide, K27.ft_all 2 _ (K27.same_self 1 0 false) 4]
      try simp only [sSeq, sAsg, sRet, sIf, sDrop, sNext, sNever, dOp, dUn, dVar, dC, dTest, isBool, dAnd, dOr, dNot, dAndV, dOrV, dNotV, dIf, dCons, dNil, dTup, dLst, dLstM, datas, dCall, dCB, gI0, gI, gB0, g1I, gAdd, gEqD, gNeD, gIx, gIn, g1A, g2A, gInt, gLen, gTuple, gSum, gBest, dSl, dNoPart, dPart, dgName, dgTup, dgCons, dgNil, dgSub, gSetI, dIndexT, dChain, startD, List.map_cons, List.map_nil, List.length_cons, List.length_nil, List.replicate, List.append, List.cons_append, List.nil_append, List.getElem?_cons_zero, List.getElem?_cons_succ, List.set_cons_zero, List.set_cons_succ, Option.some.injEq, Dv.d.injEq, Dv.r.injEq, PyData.tuple.injEq, PyData.list.injEq, PyData.str.injEq, PyData.int.injEq, exists_eq_left', Option.map_some, Nat.zero_add, Nat.reduceAdd, Nat.reduceSub, true_and, and_true, exists_and_left, at0, at1, at2, at3, at4, eqv_int, shaped_int, eqv_pr, shaped_pr, bes, intsD, in4, flat4, flatI, Bool.not_eq_true', decide_eq_false_iff_not, not_true_eq_false, if_true, if_false, Bool.not_true, Bool.not_false, Bool.false_eq_true, Bool.true_eq_false, Bool.or_eq_false_iff,  shaped_tn, shaped_hd, shaped_r, decide_eq_true_eq, sizeLine_eq, Nat.reduceLeDiff, Int.reduceToNat, Int.reducePow, Int.reduceMul, Int.reduceAdd, Int.reduceSub, Int.reduceNeg, Int.reduceMod, setM_same, MO.lst.injEq, setM_setM, ix0, ix1, ix2, ix3, ix4, dPick, keyOf, dSlT, dTupRng, gAppend, dAppend, g2B, dM1, eqv_tn, eqv_tnl, shaped_l, dSlM, g1N, dIsi, tyD, gListD, gListM, gTupleM, sPar, dgPair, isT_it, isT_is, isT_ib, isT_ii, isT_tt, gInS, sTry, xCall, xSeq, xIf, xThen, xRaise, dIsE, dNum, dRep1, gAddT, isT_ss, isT_st, isT_ts, dLstRng, sAugI, g3A]
      have hs1 : SeqAt.shaped (.tuple ((List.map (fun i : Nat => (2 : Int) + ((i : Nat) : Int)) (List.range 4)).map PyData.int)) = true := shaped_ints _
      refine ⟨hs1, hs1, ?_⟩
      rw [show PyData.eqv (.tuple ((List.map (fun i : Nat => (2 : Int) + ((i : Nat) : Int)) (List.range 4)).map PyData.int)) (.tuple [.int 2, .int 3, .int 4, .int 5]) = true from K11.eqv_same hs1]
      try simp only [sSeq, sAsg, sRet, sIf, sDrop, sNext, sNever, dOp, dUn, dVar, dC, dTest, isBool, dAnd, dOr, dNot, dAndV, dOrV, dNotV, dIf, dCons, dNil, dTup, dLst, dLstM, datas, dCall, dCB, gI0, gI, gB0, g1I, gAdd, gEqD, gNeD, gIx, gIn, g1A, g2A, gInt, gLen, gTuple, gSum, gBest, dSl, dNoPart, dPart, dgName, dgTup, dgCons, dgNil, dgSub, gSetI, dIndexT, dChain, startD, List.map_cons, List.map_nil, List.length_cons, List.length_nil, List.replicate, List.append, List.cons_append, List.nil_append, List.getElem?_cons_zero, List.getElem?_cons_succ, List.set_cons_zero, List.set_cons_succ, Option.some.injEq, Dv.d.injEq, Dv.r.injEq, PyData.tuple.injEq, PyData.list.injEq, PyData.str.injEq, PyData.int.injEq, exists_eq_left', Option.map_some, Nat.zero_add, Nat.reduceAdd, Nat.reduceSub, true_and, and_true, exists_and_left, at0, at1, at2, at3, at4, eqv_int, shaped_int, eqv_pr, shaped_pr, bes, intsD, in4, flat4, flatI, Bool.not_eq_true', decide_eq_false_iff_not, not_true_eq_false, if_true, if_false, Bool.not_true, Bool.not_false, Bool.false_eq_true, Bool.true_eq_false, Bool.or_eq_false_iff,  shaped_tn, shaped_hd, shaped_r, decide_eq_true_eq, sizeLine_eq, Nat.reduceLeDiff, Int.reduceToNat, Int.reducePow, Int.reduceMul, Int.reduceAdd, Int.reduceSub, Int.reduceNeg, Int.reduceMod, setM_same, MO.lst.injEq, setM_setM, ix0, ix1, ix2, ix3, ix4, dPick, keyOf, dSlT, dTupRng, gAppend, dAppend, g2B, dM1, eqv_tn, eqv_tnl, shaped_l, dSlM, g1N, dIsi, tyD, gListD, gListM, gTupleM, sPar, dgPair, isT_it, isT_is, isT_ib, isT_ii, isT_tt, gInS, sTry, xCall, xSeq, xIf, xThen, xRaise, dIsE, dNum, dRep1, gAddT, isT_ss, isT_st, isT_ts, dLstRng, sAugI, g3A]
      refine ⟨1, 0, false, 1, 0, false, 4, 3, rfl, by decide, by decide, by decide, ?_⟩
      rw [show max3 4 1 1 = 4 by decide, show ((3 : Int) + 1 - 4).toNat = 0 by decide]
      try simp only [sSeq, sAsg, sRet, sIf, sDrop, sNext, sNever, dOp, dUn, dVar, dC, dTest, isBool, dAnd, dOr, dNot, dAndV, dOrV, dNotV, dIf, dCons, dNil, dTup, dLst, dLstM, datas, dCall, dCB, gI0, gI, gB0, g1I, gAdd, gEqD, gNeD, gIx, gIn, g1A, g2A, gInt, gLen, gTuple, gSum, gBest, dSl, dNoPart, dPart, dgName, dgTup, dgCons, dgNil, dgSub, gSetI, dIndexT, dChain, startD, List.map_cons, List.map_nil, List.length_cons, List.length_nil, List.replicate, List.append, List.cons_append, List.nil_append, List.getElem?_cons_zero, List.getElem?_cons_succ, List.set_cons_zero, List.set_cons_succ, Option.some.injEq, Dv.d.injEq, Dv.r.injEq, PyData.tuple.injEq, PyData.list.injEq, PyData.str.injEq, PyData.int.injEq, exists_eq_left', Option.map_some, Nat.zero_add, Nat.reduceAdd, Nat.reduceSub, true_and, and_true, exists_and_left, at0, at1, at2, at3, at4, eqv_int, shaped_int, eqv_pr, shaped_pr, bes, intsD, in4, flat4, flatI, Bool.not_eq_true', decide_eq_false_iff_not, not_true_eq_false, if_true, if_false, Bool.not_true, Bool.not_false, Bool.false_eq_true, Bool.true_eq_false, Bool.or_eq_false_iff,  shaped_tn, shaped_hd, shaped_r, decide_eq_true_eq, sizeLine_eq, Nat.reduceLeDiff, Int.reduceToNat, Int.reducePow, Int.reduceMul, Int.reduceAdd, Int.reduceSub, Int.reduceNeg, Int.reduceMod, setM_same, MO.lst.injEq, setM_setM, ix0, ix1, ix2, ix3, ix4, dPick, keyOf, dSlT, dTupRng, gAppend, dAppend, g2B, dM1, eqv_tn, eqv_tnl, shaped_l, dSlM, g1N, dIsi, tyD, gListD, gListM, gTupleM, sPar, dgPair, isT_it, isT_is, isT_ib, isT_ii, isT_tt, gInS, sTry, xCall, xSeq, xIf, xThen, xRaise, dIsE, dNum, dRep1, gAddT, isT_ss, isT_st, isT_ts, dLstRng, sAugI, g3A]
      have hs2 : SeqAt.shaped (.tuple (([] : List Int).map PyData.int)) = true := shaped_ints _
      refine ⟨hs2, hs2, ?_⟩
      rw [show PyData.eqv (.tuple (List.map PyData.int (fromTo 4 0 (sameN 1 0 false 1 0 false)))) (.tuple []) = true from K11.eqv_same hs2]
      exact z _
end
theorem fin_mk {P : Program} {w : World} {K : PySem.W.Frag} {h : Heap} {mg : Str → Option Value} {fa : Addr} (X : K.In h) (G : h.Ns mainGlobals mg) (hfa : mg "law" = some (.ref fa))
    {a_offset_of : Addr} {oc_offset_of kV_offset_of dc_offset_of pm_offset_of cd_offset_of ct_offset_of : Value} {od_offset_of an_offset_of : Option Addr} {sl_offset_of : Array (Option Value)}
    {a_whole_root : Addr} {oc_whole_root kV_whole_root dc_whole_root pm_whole_root cd_whole_root ct_whole_root : Value} {od_whole_root an_whole_root : Option Addr} {sl_whole_root : Array (Option Value)}
    {a_plain_ring : Addr} {oc_plain_ring kV_plain_ring dc_plain_ring pm_plain_ring cd_plain_ring ct_plain_ring : Value} {od_plain_ring an_plain_ring : Option Addr} {sl_plain_ring : Array (Option Value)}
    {a_plain_place : Addr} {oc_plain_place kV_plain_place dc_plain_place pm_plain_place cd_plain_place ct_plain_place : Value} {od_plain_place an_plain_place : Option Addr} {sl_plain_place : Array (Option Value)}
    {a_quarters_of : Addr} {oc_quarters_of kV_quarters_of dc_quarters_of pm_quarters_of cd_quarters_of ct_quarters_of : Value} {od_quarters_of an_quarters_of : Option Addr} {sl_quarters_of : Array (Option Value)}
    {a_turned_left : Addr} {oc_turned_left kV_turned_left dc_turned_left pm_turned_left cd_turned_left ct_turned_left : Value} {od_turned_left an_turned_left : Option Addr} {sl_turned_left : Array (Option Value)}
    {a_mirrored_by : Addr} {oc_mirrored_by kV_mirrored_by dc_mirrored_by pm_mirrored_by cd_mirrored_by ct_mirrored_by : Value} {od_mirrored_by an_mirrored_by : Option Addr} {sl_mirrored_by : Array (Option Value)}
    {a_from_plain : Addr} {oc_from_plain kV_from_plain dc_from_plain pm_from_plain cd_from_plain ct_from_plain : Value} {od_from_plain an_from_plain : Option Addr} {sl_from_plain : Array (Option Value)}
    {a_place_of : Addr} {oc_place_of kV_place_of dc_place_of pm_place_of cd_place_of ct_place_of : Value} {od_place_of an_place_of : Option Addr} {sl_place_of : Array (Option Value)}
    {a_streets_between : Addr} {oc_streets_between kV_streets_between dc_streets_between pm_streets_between cd_streets_between ct_streets_between : Value} {od_streets_between an_streets_between : Option Addr} {sl_streets_between : Array (Option Value)}
    {a_same_places : Addr} {oc_same_places kV_same_places dc_same_places pm_same_places cd_same_places ct_same_places : Value} {od_same_places an_same_places : Option Addr} {sl_same_places : Array (Option Value)}
    {a__law_deck : Addr} {oc__law_deck kV__law_deck dc__law_deck pm__law_deck cd__law_deck ct__law_deck : Value} {od__law_deck an__law_deck : Option Addr} {sl__law_deck : Array (Option Value)}
    {a__law_draw : Addr} {oc__law_draw kV__law_draw dc__law_draw pm__law_draw cd__law_draw ct__law_draw : Value} {od__law_draw an__law_draw : Option Addr} {sl__law_draw : Array (Option Value)}
    {a__law_same : Addr} {oc__law_same kV__law_same dc__law_same pm__law_same cd__law_same ct__law_same : Value} {od__law_same an__law_same : Option Addr} {sl__law_same : Array (Option Value)}
    {a__law_wide : Addr} {oc__law_wide kV__law_wide dc__law_wide pm__law_wide cd__law_wide ct__law_wide : Value} {od__law_wide an__law_wide : Option Addr} {sl__law_wide : Array (Option Value)}
    {a__law_spiral : Addr} {oc__law_spiral kV__law_spiral dc__law_spiral pm__law_spiral cd__law_spiral ct__law_spiral : Value} {od__law_spiral an__law_spiral : Option Addr} {sl__law_spiral : Array (Option Value)}
    {a__law_steps : Addr} {oc__law_steps kV__law_steps dc__law_steps pm__law_steps cd__law_steps ct__law_steps : Value} {od__law_steps an__law_steps : Option Addr} {sl__law_steps : Array (Option Value)}
    {a__law_beside : Addr} {oc__law_beside kV__law_beside dc__law_beside pm__law_beside cd__law_beside ct__law_beside : Value} {od__law_beside an__law_beside : Option Addr} {sl__law_beside : Array (Option Value)}
    {a__law_runs_steps : Addr} {oc__law_runs_steps kV__law_runs_steps dc__law_runs_steps pm__law_runs_steps cd__law_runs_steps ct__law_runs_steps : Value} {od__law_runs_steps an__law_runs_steps : Option Addr} {sl__law_runs_steps : Array (Option Value)}
    {a__law_runs : Addr} {oc__law_runs kV__law_runs dc__law_runs pm__law_runs cd__law_runs ct__law_runs : Value} {od__law_runs an__law_runs : Option Addr} {sl__law_runs : Array (Option Value)}
    {a__law_to_and_fro : Addr} {oc__law_to_and_fro kV__law_to_and_fro dc__law_to_and_fro pm__law_to_and_fro cd__law_to_and_fro ct__law_to_and_fro : Value} {od__law_to_and_fro an__law_to_and_fro : Option Addr} {sl__law_to_and_fro : Array (Option Value)}
    {a__law_turned : Addr} {oc__law_turned kV__law_turned dc__law_turned pm__law_turned cd__law_turned ct__law_turned : Value} {od__law_turned an__law_turned : Option Addr} {sl__law_turned : Array (Option Value)}
    {a__law_place : Addr} {oc__law_place kV__law_place dc__law_place pm__law_place cd__law_place ct__law_place : Value} {od__law_place an__law_place : Option Addr} {sl__law_place : Array (Option Value)}
    {a__law_due : Addr} {oc__law_due kV__law_due dc__law_due pm__law_due cd__law_due ct__law_due : Value} {od__law_due an__law_due : Option Addr} {sl__law_due : Array (Option Value)}
    {a_law : Addr} {oc_law kV_law dc_law pm_law cd_law ct_law : Value} {od_law an_law : Option Addr} {sl_law : Array (Option Value)}
    {a_HEADINGS : Addr}
    {t0_HEADINGS t1_HEADINGS t2_HEADINGS t3_HEADINGS : Tok} {n_HEADINGS : Nat} {sl_HEADINGS : Array (Option Value)}
    (na_offset_of : PySem.W.nsIn K mainGlobals "offset_of" = some (some (.ref a_offset_of))) (l_offset_of : K.lookup a_offset_of = some ⟨oc_offset_of, od_offset_of, .func (PySem.W.fnOf "offset_of" "offset_of" (defArgs s_offset_of) (defBody s_offset_of) (defScope s_offset_of) .none kV_offset_of dc_offset_of pm_offset_of an_offset_of cd_offset_of ct_offset_of), sl_offset_of⟩) (c_offset_of : PySem.W.codeIn K cd_offset_of "offset_of" = true) (k_offset_of : PySem.W.keepIn K (.ref a_offset_of) = true)
    (na_whole_root : PySem.W.nsIn K mainGlobals "whole_root" = some (some (.ref a_whole_root))) (l_whole_root : K.lookup a_whole_root = some ⟨oc_whole_root, od_whole_root, .func (PySem.W.fnOf "whole_root" "whole_root" (defArgs s_whole_root) (defBody s_whole_root) (defScope s_whole_root) .none kV_whole_root dc_whole_root pm_whole_root an_whole_root cd_whole_root ct_whole_root), sl_whole_root⟩) (c_whole_root : PySem.W.codeIn K cd_whole_root "whole_root" = true) (k_whole_root : PySem.W.keepIn K (.ref a_whole_root) = true)
    (na_plain_ring : PySem.W.nsIn K mainGlobals "plain_ring" = some (some (.ref a_plain_ring))) (l_plain_ring : K.lookup a_plain_ring = some ⟨oc_plain_ring, od_plain_ring, .func (PySem.W.fnOf "plain_ring" "plain_ring" (defArgs s_plain_ring) (defBody s_plain_ring) (defScope s_plain_ring) .none kV_plain_ring dc_plain_ring pm_plain_ring an_plain_ring cd_plain_ring ct_plain_ring), sl_plain_ring⟩) (c_plain_ring : PySem.W.codeIn K cd_plain_ring "plain_ring" = true) (k_plain_ring : PySem.W.keepIn K (.ref a_plain_ring) = true)
    (na_plain_place : PySem.W.nsIn K mainGlobals "plain_place" = some (some (.ref a_plain_place))) (l_plain_place : K.lookup a_plain_place = some ⟨oc_plain_place, od_plain_place, .func (PySem.W.fnOf "plain_place" "plain_place" (defArgs s_plain_place) (defBody s_plain_place) (defScope s_plain_place) .none kV_plain_place dc_plain_place pm_plain_place an_plain_place cd_plain_place ct_plain_place), sl_plain_place⟩) (c_plain_place : PySem.W.codeIn K cd_plain_place "plain_place" = true) (k_plain_place : PySem.W.keepIn K (.ref a_plain_place) = true)
    (na_quarters_of : PySem.W.nsIn K mainGlobals "quarters_of" = some (some (.ref a_quarters_of))) (l_quarters_of : K.lookup a_quarters_of = some ⟨oc_quarters_of, od_quarters_of, .func (PySem.W.fnOf "quarters_of" "quarters_of" (defArgs s_quarters_of) (defBody s_quarters_of) (defScope s_quarters_of) .none kV_quarters_of dc_quarters_of pm_quarters_of an_quarters_of cd_quarters_of ct_quarters_of), sl_quarters_of⟩) (c_quarters_of : PySem.W.codeIn K cd_quarters_of "quarters_of" = true) (k_quarters_of : PySem.W.keepIn K (.ref a_quarters_of) = true)
    (na_turned_left : PySem.W.nsIn K mainGlobals "turned_left" = some (some (.ref a_turned_left))) (l_turned_left : K.lookup a_turned_left = some ⟨oc_turned_left, od_turned_left, .func (PySem.W.fnOf "turned_left" "turned_left" (defArgs s_turned_left) (defBody s_turned_left) (defScope s_turned_left) .none kV_turned_left dc_turned_left pm_turned_left an_turned_left cd_turned_left ct_turned_left), sl_turned_left⟩) (c_turned_left : PySem.W.codeIn K cd_turned_left "turned_left" = true) (k_turned_left : PySem.W.keepIn K (.ref a_turned_left) = true)
    (na_mirrored_by : PySem.W.nsIn K mainGlobals "mirrored_by" = some (some (.ref a_mirrored_by))) (l_mirrored_by : K.lookup a_mirrored_by = some ⟨oc_mirrored_by, od_mirrored_by, .func (PySem.W.fnOf "mirrored_by" "mirrored_by" (defArgs s_mirrored_by) (defBody s_mirrored_by) (defScope s_mirrored_by) .none kV_mirrored_by dc_mirrored_by pm_mirrored_by an_mirrored_by cd_mirrored_by ct_mirrored_by), sl_mirrored_by⟩) (c_mirrored_by : PySem.W.codeIn K cd_mirrored_by "mirrored_by" = true) (k_mirrored_by : PySem.W.keepIn K (.ref a_mirrored_by) = true)
    (na_from_plain : PySem.W.nsIn K mainGlobals "from_plain" = some (some (.ref a_from_plain))) (l_from_plain : K.lookup a_from_plain = some ⟨oc_from_plain, od_from_plain, .func (PySem.W.fnOf "from_plain" "from_plain" (defArgs s_from_plain) (defBody s_from_plain) (defScope s_from_plain) .none kV_from_plain dc_from_plain pm_from_plain an_from_plain cd_from_plain ct_from_plain), sl_from_plain⟩) (c_from_plain : PySem.W.codeIn K cd_from_plain "from_plain" = true) (k_from_plain : PySem.W.keepIn K (.ref a_from_plain) = true)
    (na_place_of : PySem.W.nsIn K mainGlobals "place_of" = some (some (.ref a_place_of))) (l_place_of : K.lookup a_place_of = some ⟨oc_place_of, od_place_of, .func (PySem.W.fnOf "place_of" "place_of" (defArgs s_place_of) (defBody s_place_of) (defScope s_place_of) .none kV_place_of dc_place_of pm_place_of an_place_of cd_place_of ct_place_of), sl_place_of⟩) (c_place_of : PySem.W.codeIn K cd_place_of "place_of" = true) (k_place_of : PySem.W.keepIn K (.ref a_place_of) = true)
    (na_streets_between : PySem.W.nsIn K mainGlobals "streets_between" = some (some (.ref a_streets_between))) (l_streets_between : K.lookup a_streets_between = some ⟨oc_streets_between, od_streets_between, .func (PySem.W.fnOf "streets_between" "streets_between" (defArgs s_streets_between) (defBody s_streets_between) (defScope s_streets_between) .none kV_streets_between dc_streets_between pm_streets_between an_streets_between cd_streets_between ct_streets_between), sl_streets_between⟩) (c_streets_between : PySem.W.codeIn K cd_streets_between "streets_between" = true) (k_streets_between : PySem.W.keepIn K (.ref a_streets_between) = true)
    (na_same_places : PySem.W.nsIn K mainGlobals "same_places" = some (some (.ref a_same_places))) (l_same_places : K.lookup a_same_places = some ⟨oc_same_places, od_same_places, .func (PySem.W.fnOf "same_places" "same_places" (defArgs s_same_places) (defBody s_same_places) (defScope s_same_places) .none kV_same_places dc_same_places pm_same_places an_same_places cd_same_places ct_same_places), sl_same_places⟩) (c_same_places : PySem.W.codeIn K cd_same_places "same_places" = true) (k_same_places : PySem.W.keepIn K (.ref a_same_places) = true)
    (na__law_deck : PySem.W.nsIn K mainGlobals "_law_deck" = some (some (.ref a__law_deck))) (l__law_deck : K.lookup a__law_deck = some ⟨oc__law_deck, od__law_deck, .func (PySem.W.fnOf "_law_deck" "_law_deck" (defArgs s__law_deck) (defBody s__law_deck) (defScope s__law_deck) .none kV__law_deck dc__law_deck pm__law_deck an__law_deck cd__law_deck ct__law_deck), sl__law_deck⟩) (c__law_deck : PySem.W.codeIn K cd__law_deck "_law_deck" = true) (k__law_deck : PySem.W.keepIn K (.ref a__law_deck) = true)
    (na__law_draw : PySem.W.nsIn K mainGlobals "_law_draw" = some (some (.ref a__law_draw))) (l__law_draw : K.lookup a__law_draw = some ⟨oc__law_draw, od__law_draw, .func (PySem.W.fnOf "_law_draw" "_law_draw" (defArgs s__law_draw) (defBody s__law_draw) (defScope s__law_draw) .none kV__law_draw dc__law_draw pm__law_draw an__law_draw cd__law_draw ct__law_draw), sl__law_draw⟩) (c__law_draw : PySem.W.codeIn K cd__law_draw "_law_draw" = true) (k__law_draw : PySem.W.keepIn K (.ref a__law_draw) = true)
    (na__law_same : PySem.W.nsIn K mainGlobals "_law_same" = some (some (.ref a__law_same))) (l__law_same : K.lookup a__law_same = some ⟨oc__law_same, od__law_same, .func (PySem.W.fnOf "_law_same" "_law_same" (defArgs s__law_same) (defBody s__law_same) (defScope s__law_same) .none kV__law_same dc__law_same pm__law_same an__law_same cd__law_same ct__law_same), sl__law_same⟩) (c__law_same : PySem.W.codeIn K cd__law_same "_law_same" = true) (k__law_same : PySem.W.keepIn K (.ref a__law_same) = true)
    (na__law_wide : PySem.W.nsIn K mainGlobals "_law_wide" = some (some (.ref a__law_wide))) (l__law_wide : K.lookup a__law_wide = some ⟨oc__law_wide, od__law_wide, .func (PySem.W.fnOf "_law_wide" "_law_wide" (defArgs s__law_wide) (defBody s__law_wide) (defScope s__law_wide) .none kV__law_wide dc__law_wide pm__law_wide an__law_wide cd__law_wide ct__law_wide), sl__law_wide⟩) (c__law_wide : PySem.W.codeIn K cd__law_wide "_law_wide" = true) (k__law_wide : PySem.W.keepIn K (.ref a__law_wide) = true)
    (na__law_spiral : PySem.W.nsIn K mainGlobals "_law_spiral" = some (some (.ref a__law_spiral))) (l__law_spiral : K.lookup a__law_spiral = some ⟨oc__law_spiral, od__law_spiral, .func (PySem.W.fnOf "_law_spiral" "_law_spiral" (defArgs s__law_spiral) (defBody s__law_spiral) (defScope s__law_spiral) .none kV__law_spiral dc__law_spiral pm__law_spiral an__law_spiral cd__law_spiral ct__law_spiral), sl__law_spiral⟩) (c__law_spiral : PySem.W.codeIn K cd__law_spiral "_law_spiral" = true) (k__law_spiral : PySem.W.keepIn K (.ref a__law_spiral) = true)
    (na__law_steps : PySem.W.nsIn K mainGlobals "_law_steps" = some (some (.ref a__law_steps))) (l__law_steps : K.lookup a__law_steps = some ⟨oc__law_steps, od__law_steps, .func (PySem.W.fnOf "_law_steps" "_law_steps" (defArgs s__law_steps) (defBody s__law_steps) (defScope s__law_steps) .none kV__law_steps dc__law_steps pm__law_steps an__law_steps cd__law_steps ct__law_steps), sl__law_steps⟩) (c__law_steps : PySem.W.codeIn K cd__law_steps "_law_steps" = true) (k__law_steps : PySem.W.keepIn K (.ref a__law_steps) = true)
    (na__law_beside : PySem.W.nsIn K mainGlobals "_law_beside" = some (some (.ref a__law_beside))) (l__law_beside : K.lookup a__law_beside = some ⟨oc__law_beside, od__law_beside, .func (PySem.W.fnOf "_law_beside" "_law_beside" (defArgs s__law_beside) (defBody s__law_beside) (defScope s__law_beside) .none kV__law_beside dc__law_beside pm__law_beside an__law_beside cd__law_beside ct__law_beside), sl__law_beside⟩) (c__law_beside : PySem.W.codeIn K cd__law_beside "_law_beside" = true) (k__law_beside : PySem.W.keepIn K (.ref a__law_beside) = true)
    (na__law_runs_steps : PySem.W.nsIn K mainGlobals "_law_runs_steps" = some (some (.ref a__law_runs_steps))) (l__law_runs_steps : K.lookup a__law_runs_steps = some ⟨oc__law_runs_steps, od__law_runs_steps, .func (PySem.W.fnOf "_law_runs_steps" "_law_runs_steps" (defArgs s__law_runs_steps) (defBody s__law_runs_steps) (defScope s__law_runs_steps) .none kV__law_runs_steps dc__law_runs_steps pm__law_runs_steps an__law_runs_steps cd__law_runs_steps ct__law_runs_steps), sl__law_runs_steps⟩) (c__law_runs_steps : PySem.W.codeIn K cd__law_runs_steps "_law_runs_steps" = true) (k__law_runs_steps : PySem.W.keepIn K (.ref a__law_runs_steps) = true)
    (na__law_runs : PySem.W.nsIn K mainGlobals "_law_runs" = some (some (.ref a__law_runs))) (l__law_runs : K.lookup a__law_runs = some ⟨oc__law_runs, od__law_runs, .func (PySem.W.fnOf "_law_runs" "_law_runs" (defArgs s__law_runs) (defBody s__law_runs) (defScope s__law_runs) .none kV__law_runs dc__law_runs pm__law_runs an__law_runs cd__law_runs ct__law_runs), sl__law_runs⟩) (c__law_runs : PySem.W.codeIn K cd__law_runs "_law_runs" = true) (k__law_runs : PySem.W.keepIn K (.ref a__law_runs) = true)
    (na__law_to_and_fro : PySem.W.nsIn K mainGlobals "_law_to_and_fro" = some (some (.ref a__law_to_and_fro))) (l__law_to_and_fro : K.lookup a__law_to_and_fro = some ⟨oc__law_to_and_fro, od__law_to_and_fro, .func (PySem.W.fnOf "_law_to_and_fro" "_law_to_and_fro" (defArgs s__law_to_and_fro) (defBody s__law_to_and_fro) (defScope s__law_to_and_fro) .none kV__law_to_and_fro dc__law_to_and_fro pm__law_to_and_fro an__law_to_and_fro cd__law_to_and_fro ct__law_to_and_fro), sl__law_to_and_fro⟩) (c__law_to_and_fro : PySem.W.codeIn K cd__law_to_and_fro "_law_to_and_fro" = true) (k__law_to_and_fro : PySem.W.keepIn K (.ref a__law_to_and_fro) = true)
    (na__law_turned : PySem.W.nsIn K mainGlobals "_law_turned" = some (some (.ref a__law_turned))) (l__law_turned : K.lookup a__law_turned = some ⟨oc__law_turned, od__law_turned, .func (PySem.W.fnOf "_law_turned" "_law_turned" (defArgs s__law_turned) (defBody s__law_turned) (defScope s__law_turned) .none kV__law_turned dc__law_turned pm__law_turned an__law_turned cd__law_turned ct__law_turned), sl__law_turned⟩) (c__law_turned : PySem.W.codeIn K cd__law_turned "_law_turned" = true) (k__law_turned : PySem.W.keepIn K (.ref a__law_turned) = true)
    (na__law_place : PySem.W.nsIn K mainGlobals "_law_place" = some (some (.ref a__law_place))) (l__law_place : K.lookup a__law_place = some ⟨oc__law_place, od__law_place, .func (PySem.W.fnOf "_law_place" "_law_place" (defArgs s__law_place) (defBody s__law_place) (defScope s__law_place) .none kV__law_place dc__law_place pm__law_place an__law_place cd__law_place ct__law_place), sl__law_place⟩) (c__law_place : PySem.W.codeIn K cd__law_place "_law_place" = true) (k__law_place : PySem.W.keepIn K (.ref a__law_place) = true)
    (na__law_due : PySem.W.nsIn K mainGlobals "_law_due" = some (some (.ref a__law_due))) (l__law_due : K.lookup a__law_due = some ⟨oc__law_due, od__law_due, .func (PySem.W.fnOf "_law_due" "_law_due" (defArgs s__law_due) (defBody s__law_due) (defScope s__law_due) .none kV__law_due dc__law_due pm__law_due an__law_due cd__law_due ct__law_due), sl__law_due⟩) (c__law_due : PySem.W.codeIn K cd__law_due "_law_due" = true) (k__law_due : PySem.W.keepIn K (.ref a__law_due) = true)
    (na_law : PySem.W.nsIn K mainGlobals "law" = some (some (.ref a_law))) (l_law : K.lookup a_law = some ⟨oc_law, od_law, .func (PySem.W.fnOf "law" "law" (defArgs s_law) (defBody s_law) (defScope s_law) .none kV_law dc_law pm_law an_law cd_law ct_law), sl_law⟩) (c_law : PySem.W.codeIn K cd_law "law" = true) (k_law : PySem.W.keepIn K (.ref a_law) = true)
    (z_abs : PySem.W.nsIn K mainGlobals "abs" = some none)
    (z_bool : PySem.W.nsIn K mainGlobals "bool" = some none)
    (z_int : PySem.W.nsIn K mainGlobals "int" = some none)
    (z_isinstance : PySem.W.nsIn K mainGlobals "isinstance" = some none)
    (z_len : PySem.W.nsIn K mainGlobals "len" = some none)
    (z_max : PySem.W.nsIn K mainGlobals "max" = some none)
    (z_min : PySem.W.nsIn K mainGlobals "min" = some none)
    (z_range : PySem.W.nsIn K mainGlobals "range" = some none)
    (z_str : PySem.W.nsIn K mainGlobals "str" = some none)
    (z_tuple : PySem.W.nsIn K mainGlobals "tuple" = some none)
    (z_zip : PySem.W.nsIn K mainGlobals "zip" = some none)
    (na_HEADINGS : PySem.W.nsIn K mainGlobals "HEADINGS" = some (some (.ref a_HEADINGS)))
    (l_HEADINGS : K.lookup a_HEADINGS = some ⟨.type "tuple", none, .seq #[.str "e" t0_HEADINGS, .str "n" t1_HEADINGS, .str "w" t2_HEADINGS, .str "s" t3_HEADINGS] n_HEADINGS, sl_HEADINGS⟩) :
    ∃ fd : FuncData, (∀ (s : Shared) (v : Value), BindsTo s fd ⟨[v], []⟩ [("script", v)]) ∧ ∀ base : Heap, K.In base → base.Ns mainGlobals mg → FnOk P w K mg base CX0 6 fa fd ["script"] (spD K F_law) := by
  obtain rfl : a_law = fa := by
    have e := hfa.symm.trans (PySem.W.mg_of X G na_law)
    cases e; rfl
  let T : Tx K mg := {
    a_offset_of := a_offset_of, fd_offset_of := _, F_offset_of := fun_mk (st := s_offset_of) l_offset_of c_offset_of k_offset_of, m_offset_of := PySem.W.mg_of X G na_offset_of, n_offset_of := (fun_mk (st := s_offset_of) l_offset_of c_offset_of k_offset_of).binds (ps := ["spiral", "number"]) fun _ _ _ _ _ _ us hl => match us, hl with | [_, _], _ => rfl,
    a_whole_root := a_whole_root, fd_whole_root := _, F_whole_root := fun_mk (st := s_whole_root) l_whole_root c_whole_root k_whole_root, m_whole_root := PySem.W.mg_of X G na_whole_root, n_whole_root := (fun_mk (st := s_whole_root) l_whole_root c_whole_root k_whole_root).binds (ps := ["square"]) fun _ _ _ _ _ _ us hl => match us, hl with | [_], _ => rfl,
    a_plain_ring := a_plain_ring, fd_plain_ring := _, F_plain_ring := fun_mk (st := s_plain_ring) l_plain_ring c_plain_ring k_plain_ring, m_plain_ring := PySem.W.mg_of X G na_plain_ring, n_plain_ring := (fun_mk (st := s_plain_ring) l_plain_ring c_plain_ring k_plain_ring).binds (ps := ["offset"]) fun _ _ _ _ _ _ us hl => match us, hl with | [_], _ => rfl,
    a_plain_place := a_plain_place, fd_plain_place := _, F_plain_place := fun_mk (st := s_plain_place) l_plain_place c_plain_place k_plain_place, m_plain_place := PySem.W.mg_of X G na_plain_place, n_plain_place := (fun_mk (st := s_plain_place) l_plain_place c_plain_place k_plain_place).binds (ps := ["offset"]) fun _ _ _ _ _ _ us hl => match us, hl with | [_], _ => rfl,
    a_quarters_of := a_quarters_of, fd_quarters_of := _, F_quarters_of := fun_mk (st := s_quarters_of) l_quarters_of c_quarters_of k_quarters_of, m_quarters_of := PySem.W.mg_of X G na_quarters_of, n_quarters_of := (fun_mk (st := s_quarters_of) l_quarters_of c_quarters_of k_quarters_of).binds (ps := ["heading"]) fun _ _ _ _ _ _ us hl => match us, hl with | [_], _ => rfl,
    a_turned_left := a_turned_left, fd_turned_left := _, F_turned_left := fun_mk (st := s_turned_left) l_turned_left c_turned_left k_turned_left, m_turned_left := PySem.W.mg_of X G na_turned_left, n_turned_left := (fun_mk (st := s_turned_left) l_turned_left c_turned_left k_turned_left).binds (ps := ["place", "quarters"]) fun _ _ _ _ _ _ us hl => match us, hl with | [_, _], _ => rfl,
    a_mirrored_by := a_mirrored_by, fd_mirrored_by := _, F_mirrored_by := fun_mk (st := s_mirrored_by) l_mirrored_by c_mirrored_by k_mirrored_by, m_mirrored_by := PySem.W.mg_of X G na_mirrored_by, n_mirrored_by := (fun_mk (st := s_mirrored_by) l_mirrored_by c_mirrored_by k_mirrored_by).binds (ps := ["turn", "place"]) fun _ _ _ _ _ _ us hl => match us, hl with | [_, _], _ => rfl,
    a_from_plain := a_from_plain, fd_from_plain := _, F_from_plain := fun_mk (st := s_from_plain) l_from_plain c_from_plain k_from_plain, m_from_plain := PySem.W.mg_of X G na_from_plain, n_from_plain := (fun_mk (st := s_from_plain) l_from_plain c_from_plain k_from_plain).binds (ps := ["spiral", "place"]) fun _ _ _ _ _ _ us hl => match us, hl with | [_, _], _ => rfl,
    a_place_of := a_place_of, fd_place_of := _, F_place_of := fun_mk (st := s_place_of) l_place_of c_place_of k_place_of, m_place_of := PySem.W.mg_of X G na_place_of, n_place_of := (fun_mk (st := s_place_of) l_place_of c_place_of k_place_of).binds (ps := ["spiral", "number"]) fun _ _ _ _ _ _ us hl => match us, hl with | [_, _], _ => rfl,
    a_streets_between := a_streets_between, fd_streets_between := _, F_streets_between := fun_mk (st := s_streets_between) l_streets_between c_streets_between k_streets_between, m_streets_between := PySem.W.mg_of X G na_streets_between, n_streets_between := (fun_mk (st := s_streets_between) l_streets_between c_streets_between k_streets_between).binds (ps := ["place", "other"]) fun _ _ _ _ _ _ us hl => match us, hl with | [_, _], _ => rfl,
    a_same_places := a_same_places, fd_same_places := _, F_same_places := fun_mk (st := s_same_places) l_same_places c_same_places k_same_places, m_same_places := PySem.W.mg_of X G na_same_places, n_same_places := (fun_mk (st := s_same_places) l_same_places c_same_places k_same_places).binds (ps := ["one", "other", "first", "last"]) fun _ _ _ _ _ _ us hl => match us, hl with | [_, _, _, _], _ => rfl,
    a__law_deck := a__law_deck, fd__law_deck := _, F__law_deck := fun_mk (st := s__law_deck) l__law_deck c__law_deck k__law_deck, m__law_deck := PySem.W.mg_of X G na__law_deck, n__law_deck := (fun_mk (st := s__law_deck) l__law_deck c__law_deck k__law_deck).binds (ps := ["script"]) fun _ _ _ _ _ _ us hl => match us, hl with | [_], _ => rfl,
    a__law_draw := a__law_draw, fd__law_draw := _, F__law_draw := fun_mk (st := s__law_draw) l__law_draw c__law_draw k__law_draw, m__law_draw := PySem.W.mg_of X G na__law_draw, n__law_draw := (fun_mk (st := s__law_draw) l__law_draw c__law_draw k__law_draw).binds (ps := ["deck", "most"]) fun _ _ _ _ _ _ us hl => match us, hl with | [_, _], _ => rfl,
    a__law_same := a__law_same, fd__law_same := _, F__law_same := fun_mk (st := s__law_same) l__law_same c__law_same k__law_same, m__law_same := PySem.W.mg_of X G na__law_same, n__law_same := (fun_mk (st := s__law_same) l__law_same c__law_same k__law_same).binds (ps := ["found", "due"]) fun _ _ _ _ _ _ us hl => match us, hl with | [_, _], _ => rfl,
    a__law_wide := a__law_wide, fd__law_wide := _, F__law_wide := fun_mk (st := s__law_wide) l__law_wide c__law_wide k__law_wide, m__law_wide := PySem.W.mg_of X G na__law_wide, n__law_wide := (fun_mk (st := s__law_wide) l__law_wide c__law_wide k__law_wide).binds (ps := ["deck", "most"]) fun _ _ _ _ _ _ us hl => match us, hl with | [_, _], _ => rfl,
    a__law_spiral := a__law_spiral, fd__law_spiral := _, F__law_spiral := fun_mk (st := s__law_spiral) l__law_spiral c__law_spiral k__law_spiral, m__law_spiral := PySem.W.mg_of X G na__law_spiral, n__law_spiral := (fun_mk (st := s__law_spiral) l__law_spiral c__law_spiral k__law_spiral).binds (ps := ["deck"]) fun _ _ _ _ _ _ us hl => match us, hl with | [_], _ => rfl,
    a__law_steps := a__law_steps, fd__law_steps := _, F__law_steps := fun_mk (st := s__law_steps) l__law_steps c__law_steps k__law_steps, m__law_steps := PySem.W.mg_of X G na__law_steps, n__law_steps := (fun_mk (st := s__law_steps) l__law_steps c__law_steps k__law_steps).binds (ps := ["deck", "start"]) fun _ _ _ _ _ _ us hl => match us, hl with | [_, _], _ => rfl,
    a__law_beside := a__law_beside, fd__law_beside := _, F__law_beside := fun_mk (st := s__law_beside) l__law_beside c__law_beside k__law_beside, m__law_beside := PySem.W.mg_of X G na__law_beside, n__law_beside := (fun_mk (st := s__law_beside) l__law_beside c__law_beside k__law_beside).binds (ps := ["deck", "one"]) fun _ _ _ _ _ _ us hl => match us, hl with | [_, _], _ => rfl,
    a__law_runs_steps := a__law_runs_steps, fd__law_runs_steps := _, F__law_runs_steps := fun_mk (st := s__law_runs_steps) l__law_runs_steps c__law_runs_steps k__law_runs_steps, m__law_runs_steps := PySem.W.mg_of X G na__law_runs_steps, n__law_runs_steps := (fun_mk (st := s__law_runs_steps) l__law_runs_steps c__law_runs_steps k__law_runs_steps).binds (ps := ["runs", "arms"]) fun _ _ _ _ _ _ us hl => match us, hl with | [_, _], _ => rfl,
    a__law_runs := a__law_runs, fd__law_runs := _, F__law_runs := fun_mk (st := s__law_runs) l__law_runs c__law_runs k__law_runs, m__law_runs := PySem.W.mg_of X G na__law_runs, n__law_runs := (fun_mk (st := s__law_runs) l__law_runs c__law_runs k__law_runs).binds (ps := ["steps", "arms"]) fun _ _ _ _ _ _ us hl => match us, hl with | [_, _], _ => rfl,
    a__law_to_and_fro := a__law_to_and_fro, fd__law_to_and_fro := _, F__law_to_and_fro := fun_mk (st := s__law_to_and_fro) l__law_to_and_fro c__law_to_and_fro k__law_to_and_fro, m__law_to_and_fro := PySem.W.mg_of X G na__law_to_and_fro, n__law_to_and_fro := (fun_mk (st := s__law_to_and_fro) l__law_to_and_fro c__law_to_and_fro k__law_to_and_fro).binds (ps := ["many", "arm"]) fun _ _ _ _ _ _ us hl => match us, hl with | [_, _], _ => rfl,
    a__law_turned := a__law_turned, fd__law_turned := _, F__law_turned := fun_mk (st := s__law_turned) l__law_turned c__law_turned k__law_turned, m__law_turned := PySem.W.mg_of X G na__law_turned, n__law_turned := (fun_mk (st := s__law_turned) l__law_turned c__law_turned k__law_turned).binds (ps := ["spiral", "place"]) fun _ _ _ _ _ _ us hl => match us, hl with | [_, _], _ => rfl,
    a__law_place := a__law_place, fd__law_place := _, F__law_place := fun_mk (st := s__law_place) l__law_place c__law_place k__law_place, m__law_place := PySem.W.mg_of X G na__law_place, n__law_place := (fun_mk (st := s__law_place) l__law_place c__law_place k__law_place).binds (ps := ["spiral", "arms", "number"]) fun _ _ _ _ _ _ us hl => match us, hl with | [_, _, _], _ => rfl,
    a__law_due := a__law_due, fd__law_due := _, F__law_due := fun_mk (st := s__law_due) l__law_due c__law_due k__law_due, m__law_due := PySem.W.mg_of X G na__law_due, n__law_due := (fun_mk (st := s__law_due) l__law_due c__law_due k__law_due).binds (ps := ["one", "other", "first", "last"]) fun _ _ _ _ _ _ us hl => match us, hl with | [_, _, _, _], _ => rfl,
    a_law := a_law, fd_law := _, F_law := fun_mk (st := s_law) l_law c_law k_law, m_law := PySem.W.mg_of X G na_law, n_law := (fun_mk (st := s_law) l_law c_law k_law).binds (ps := ["script"]) fun _ _ _ _ _ _ us hl => match us, hl with | [_], _ => rfl,
    b_abs := PySem.W.mg_none_of X G z_abs,
    b_bool := PySem.W.mg_none_of X G z_bool,
    b_int := PySem.W.mg_none_of X G z_int,
    b_isinstance := PySem.W.mg_none_of X G z_isinstance,
    b_len := PySem.W.mg_none_of X G z_len,
    b_max := PySem.W.mg_none_of X G z_max,
    b_min := PySem.W.mg_none_of X G z_min,
    b_range := PySem.W.mg_none_of X G z_range,
    b_str := PySem.W.mg_none_of X G z_str,
    b_tuple := PySem.W.mg_none_of X G z_tuple,
    b_zip := PySem.W.mg_none_of X G z_zip,
    a_HEADINGS := a_HEADINGS, m_HEADINGS := PySem.W.mg_of X G na_HEADINGS, d_HEADINGS := fun I => Dp.tup ((fun I => .inr ⟨_, _, _, l_HEADINGS, rfl, rfl, szk (k := 4) (by decide), (.cons (relS _ _) (.cons (relS _ _) (.cons (relS _ _) (.cons (relS _ _) .nil))))⟩) I) (.cons (Dp.str _) (.cons (Dp.str _) (.cons (Dp.str _) (.cons (Dp.str _) .nil)))), t_HEADINGS := _, c_HEADINGS := _, l_HEADINGS := _, k_HEADINGS := l_HEADINGS, s_HEADINGS := (fun I => .inr ⟨_, _, _, l_HEADINGS, rfl, rfl, szk (k := 4) (by decide), (.cons (relS _ _) (.cons (relS _ _) (.cons (relS _ _) (.cons (relS _ _) .nil))))⟩), a_HEADINGS_all := fun I => (.cons (Dp.str _) (.cons (Dp.str _) (.cons (Dp.str _) (.cons (Dp.str _) .nil)))) }
  exact ⟨T.fd_law, fun s v => .of_eq rfl, fun base _ _ => ok_law T⟩
end K27
open PySem PySem.W PyProof.Rows
set_option maxRecDepth 100000 in
set_option maxHeartbeats 0 in
theorem PySem.Challenge.cw_laidround_k27_same_places_holds : PySem.Challenge.rw_laidround_k27_same_places.Holds := by
  w_on; o_law; k_head; (case hw => w_witness2)
  k_fill
  refine DL.walk_ofB (l := PySem.Challenge.rw_laidround_k27_same_places) (n := 63) (k := 6) (x := "script") (CX := L2.CX0) (sp := fun K => DL.spD K _root_.K27.F_law) rfl (by decide) rfl ⟨rfl, by decide, by decide⟩ (fun w h Y => PySem.W.kIn_of Y) ?F ?S ?C
  case F =>
    intro w mg fa h KX G hmg
    refine' _root_.K27.fin_mk KX G hmg ?na_offset_of ?l_offset_of ?c_offset_of ?k_offset_of ?na_whole_root ?l_whole_root ?c_whole_root ?k_whole_root ?na_plain_ring ?l_plain_ring ?c_plain_ring ?k_plain_ring ?na_plain_place ?l_plain_place ?c_plain_place ?k_plain_place ?na_quarters_of ?l_quarters_of ?c_quarters_of ?k_quarters_of ?na_turned_left ?l_turned_left ?c_turned_left ?k_turned_left ?na_mirrored_by ?l_mirrored_by ?c_mirrored_by ?k_mirrored_by ?na_from_plain ?l_from_plain ?c_from_plain ?k_from_plain ?na_place_of ?l_place_of ?c_place_of ?k_place_of ?na_streets_between ?l_streets_between ?c_streets_between ?k_streets_between ?na_same_places ?l_same_places ?c_same_places ?k_same_places ?na__law_deck ?l__law_deck ?c__law_deck ?k__law_deck ?na__law_draw ?l__law_draw ?c__law_draw ?k__law_draw ?na__law_same ?l__law_same ?c__law_same ?k__law_same ?na__law_wide ?l__law_wide ?c__law_wide ?k__law_wide ?na__law_spiral ?l__law_spiral ?c__law_spiral ?k__law_spiral ?na__law_steps ?l__law_steps ?c__law_steps ?k__law_steps ?na__law_beside ?l__law_beside ?c__law_beside ?k__law_beside ?na__law_runs_steps ?l__law_runs_steps ?c__law_runs_steps ?k__law_runs_steps ?na__law_runs ?l__law_runs ?c__law_runs ?k__law_runs ?na__law_to_and_fro ?l__law_to_and_fro ?c__law_to_and_fro ?k__law_to_and_fro ?na__law_turned ?l__law_turned ?c__law_turned ?k__law_turned ?na__law_place ?l__law_place ?c__law_place ?k__law_place ?na__law_due ?l__law_due ?c__law_due ?k__law_due ?na_law ?l_law ?c_law ?k_law ?z_abs ?z_bool ?z_int ?z_isinstance ?z_len ?z_max ?z_min ?z_range ?z_str ?z_tuple ?z_zip ?na_HEADINGS ?l_HEADINGS
    (case na_offset_of => k_is)
    (case l_offset_of => k_is)
    (case c_offset_of => k_is)
    (case k_offset_of => k_is)
    (case na_whole_root => k_is)
    (case l_whole_root => k_is)
    (case c_whole_root => k_is)
    (case k_whole_root => k_is)
    (case na_plain_ring => k_is)
    (case l_plain_ring => k_is)
    (case c_plain_ring => k_is)
    (case k_plain_ring => k_is)
    (case na_plain_place => k_is)
    (case l_plain_place => k_is)
    (case c_plain_place => k_is)
    (case k_plain_place => k_is)
    (case na_quarters_of => k_is)
    (case l_quarters_of => k_is)
    (case c_quarters_of => k_is)
    (case k_quarters_of => k_is)
    (case na_turned_left => k_is)
    (case l_turned_left => k_is)
    (case c_turned_left => k_is)
    (case k_turned_left => k_is)
    (case na_mirrored_by => k_is)
    (case l_mirrored_by => k_is)
    (case c_mirrored_by => k_is)
    (case k_mirrored_by => k_is)
    (case na_from_plain => k_is)
    (case l_from_plain => k_is)
    (case c_from_plain => k_is)
    (case k_from_plain => k_is)
    (case na_place_of => k_is)
    (case l_place_of => k_is)
    (case c_place_of => k_is)
    (case k_place_of => k_is)
    (case na_streets_between => k_is)
    (case l_streets_between => k_is)
    (case c_streets_between => k_is)
    (case k_streets_between => k_is)
    (case na_same_places => k_is)
    (case l_same_places => k_is)
    (case c_same_places => k_is)
    (case k_same_places => k_is)
    (case na__law_deck => k_is)
    (case l__law_deck => k_is)
    (case c__law_deck => k_is)
    (case k__law_deck => k_is)
    (case na__law_draw => k_is)
    (case l__law_draw => k_is)
    (case c__law_draw => k_is)
    (case k__law_draw => k_is)
    (case na__law_same => k_is)
    (case l__law_same => k_is)
    (case c__law_same => k_is)
    (case k__law_same => k_is)
    (case na__law_wide => k_is)
    (case l__law_wide => k_is)
    (case c__law_wide => k_is)
    (case k__law_wide => k_is)
    (case na__law_spiral => k_is)
    (case l__law_spiral => k_is)
    (case c__law_spiral => k_is)
    (case k__law_spiral => k_is)
    (case na__law_steps => k_is)
    (case l__law_steps => k_is)
    (case c__law_steps => k_is)
    (case k__law_steps => k_is)
    (case na__law_beside => k_is)
    (case l__law_beside => k_is)
    (case c__law_beside => k_is)
    (case k__law_beside => k_is)
    (case na__law_runs_steps => k_is)
    (case l__law_runs_steps => k_is)
    (case c__law_runs_steps => k_is)
    (case k__law_runs_steps => k_is)
    (case na__law_runs => k_is)
    (case l__law_runs => k_is)
    (case c__law_runs => k_is)
    (case k__law_runs => k_is)
    (case na__law_to_and_fro => k_is)
    (case l__law_to_and_fro => k_is)
    (case c__law_to_and_fro => k_is)
    (case k__law_to_and_fro => k_is)
    (case na__law_turned => k_is)
    (case l__law_turned => k_is)
    (case c__law_turned => k_is)
    (case k__law_turned => k_is)
    (case na__law_place => k_is)
    (case l__law_place => k_is)
    (case c__law_place => k_is)
    (case k__law_place => k_is)
    (case na__law_due => k_is)
    (case l__law_due => k_is)
    (case c__law_due => k_is)
    (case k__law_due => k_is)
    (case na_law => k_is)
    (case l_law => k_is)
    (case c_law => k_is)
    (case k_law => k_is)
    (case z_abs => k_is)
    (case z_bool => k_is)
    (case z_int => k_is)
    (case z_isinstance => k_is)
    (case z_len => k_is)
    (case z_max => k_is)
    (case z_min => k_is)
    (case z_range => k_is)
    (case z_str => k_is)
    (case z_tuple => k_is)
    (case z_zip => k_is)
    (case na_HEADINGS => k_is)
    (case l_HEADINGS => k_is)
  case S =>
    intro K H a ns hl hb hS
    exact ⟨H, [.d (.list (ns.map .int))], fun _ => none, ⟨fun _ _ e => e, fun _ _ _ => rfl, fun _ _ e => by cases e⟩, .cons (L2.Dp.lst hS (DL.ints_dp ns)) .nil, ns, rfl, ⟨hl, hb⟩, fun m' v H' I' _ _ h => h.bl⟩
  case C => exact fun _ _ _ _ z => z
#print axioms PySem.Challenge.cw_laidround_k27_same_places_holds

