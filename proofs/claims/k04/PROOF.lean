import PyProof.Rows.All
import Wide.All
import OpenK.AllK
import Wide.FinOn
import PyProof.EqAt
import PyProof.EqKinds
import PyProof.TupleCall
import KE.BitLaws
import KE.IntBitsLaws
import KE.IntTextLaws
import KE.KDictSum
import KE.KRevSl
import KE.KSuper
import PyProof.InstStoreFacts
import PyProof.ListRange
import PyProof.MaxThree
import PyProof.Rows.FStr
import PyProof.Rows.StrSplitCount
import PyProof.StrLawsAffix
import PyProof.StrLawsIn
import PySem.Challenge.RW_laidround_k04_whole_spirals
set_option Elab.async false
set_option linter.all false
set_option maxRecDepth 100000
namespace L2
open PySem PySem.Spec PyProof.Rows
abbrev Key := Sum Int Str
def keyIs : Key → Value → Bool
  | .inl k, v => Value.isInt k v
  | .inr x, v => Value.isStrOf x v
def keyH (w : World) : Key → Int
  | .inl k => hashInt k
  | .inr x => hashStr w x
theorem keyIs_shape : ∀ {k : Key} {v : Value}, keyIs k v = true → (∃ i t, k = Sum.inl i ∧ v = Value.int i t) ∨ (∃ x t, k = Sum.inr x ∧ v = Value.str x t)
  | .inl i, v, h => by
    obtain ⟨t, e⟩ := Value.isInt_shape (k := i) (v := v) h
    exact .inl ⟨i, t, rfl, e⟩
  | .inr x, v, h => by
    obtain ⟨t, e⟩ := Value.isStrOf_shape (x := x) (v := v) h
    exact .inr ⟨x, t, rfl, e⟩
theorem keyIs_int (i : Int) (t : Tok) : keyIs (.inl i) (.int i t) = true := by simp [keyIs, Value.isInt]
theorem keyIs_str (x : Str) (t : Tok) : keyIs (.inr x) (.str x t) = true := by simp [keyIs, Value.isStrOf]
theorem key_ll (a b : Int) : decide ((Sum.inl a : Key) = Sum.inl b) = (a == b) := by
  by_cases e : a = b
  · subst e; simp
  · have h : ¬ (Sum.inl a : Key) = Sum.inl b := fun q => e (Sum.inl.inj q)
    rw [decide_eq_false h]
    exact (beq_eq_false_iff_ne.mpr e).symm
theorem key_rr (a b : Str) : decide ((Sum.inr a : Key) = Sum.inr b) = decide (a = b) := by
  by_cases e : a = b
  · subst e; simp
  · have h : ¬ (Sum.inr a : Key) = Sum.inr b := fun q => e (Sum.inr.inj q)
    rw [decide_eq_false h, decide_eq_false e]
theorem key_lr (a : Int) (b : Str) : decide ((Sum.inl a : Key) = Sum.inr b) = false := decide_eq_false (fun q => nomatch q)
theorem key_rl (a : Str) (b : Int) : decide ((Sum.inr a : Key) = Sum.inl b) = false := decide_eq_false (fun q => nomatch q)
def mixKind (prog : Program) (w : World) : PySem.KeyKind prog w Key where
  is := keyIs
  hash := keyH w
  inj := fun v a b ha hb => by
    rcases keyIs_shape ha with ⟨i, t, rfl, rfl⟩ | ⟨x, t, rfl, rfl⟩
    · rcases keyIs_shape hb with ⟨j, u, rfl, e⟩ | ⟨y, u, rfl, e⟩
      · injection e with e1 _; rw [e1]
      · exact nomatch e
    · rcases keyIs_shape hb with ⟨j, u, rfl, e⟩ | ⟨y, u, rfl, e⟩
      · exact nomatch e
      · injection e with e1 _; rw [e1]
  byValue := fun k v h => by
    rcases keyIs_shape h with ⟨i, t, rfl, rfl⟩ | ⟨x, t, rfl, rfl⟩ <;> rfl
  pyHash := fun hv h => by
    rcases keyIs_shape hv with ⟨i, t, rfl, rfl⟩ | ⟨x, t, rfl, rfl⟩
    · exact wpAny_pyHash_int h
    · exact wpAny_pyHash_str h
  eqBool := fun hu hv h => by
    rcases keyIs_shape hu with ⟨i, t, rfl, rfl⟩ | ⟨x, t, rfl, rfl⟩
    · rcases keyIs_shape hv with ⟨j, u, rfl, rfl⟩ | ⟨y, u, rfl, rfl⟩
      · rw [key_ll] at h; exact wpAny_eqBool_int h
      · rw [key_lr] at h; exact SeqAt.EqAt.int_str i t y u _ _ _ _ h
    · rcases keyIs_shape hv with ⟨j, u, rfl, rfl⟩ | ⟨y, u, rfl, rfl⟩
      · rw [key_rl] at h; exact SeqAt.EqAt.str_int x t j u _ _ _ _ h
      · rw [key_rr] at h; exact wpAny_eqBool_str h
  «strs» := fun k x t v h => by
    rcases keyIs_shape h with ⟨i, u, rfl, e⟩ | ⟨y, u, rfl, e⟩
    · exact nomatch e
    · injection e with e1 _
      subst e1
      cases v <;> rfl
theorem mixKind_int (prog : Program) (w : World) (i : Int) (t : Tok) : (mixKind prog w).is (.inl i) (.int i t) = true := keyIs_int i t
theorem mixKind_str (prog : Program) (w : World) (x : Str) (t : Tok) : (mixKind prog w).is (.inr x) (.str x t) = true := keyIs_str x t
end L2
namespace L2
open PySem PySem.Spec PyProof.Rows
inductive V where
  | non | bl (b : Bool) | int (i : Int) | str (x : Str) | byt (b : Array UInt8) | flt (b : UInt64) | ref (a : Addr) | ty (n : String)
  deriving DecidableEq
def RelV : V → Value → Prop
  | .non, u => u = Value.none
  | .bl b, u => u = Value.bool b
  | .int i, u => ∃ t, u = Value.int i t
  | .str x, u => ∃ t, u = Value.str x t
  | .byt b, u => ∃ t, u = Value.bytes b t
  | .flt b, u => ∃ t, u = Value.float b t
  | .ref a, u => u = Value.ref a
  | .ty n, u => u = Value.type n
abbrev Vals : List V → List Value → Prop := Paired RelV
theorem Vals.length {xs : List V} {us : List Value} (r : Vals xs us) : xs.length = us.length := Paired.length r
theorem Vals.get : ∀ {xs : List V} {us : List Value} {i : Nat} {x : V}, Vals xs us → xs[i]? = some x → ∃ u, us[i]? = some u ∧ RelV x u
  | _, _, _, _, .nil, e => by simp at e
  | _, _, 0, _, .cons r _, e => by simp at e; subst e; exact ⟨_, rfl, r⟩
  | _, _, i + 1, x, .cons _ t, e => by
    obtain ⟨u, h1, h2⟩ := Vals.get (i := i) (x := x) t (by simpa using e)
    exact ⟨u, by simpa using h1, h2⟩
theorem Vals.set {x : V} {u : Value} (r : RelV x u) : ∀ {xs : List V} {us : List Value} (i : Nat), Vals xs us → Vals (xs.set i x) (us.set i u)
  | _, _, _, .nil => .nil
  | _, _, 0, .cons _ t => .cons r t
  | _, _, i + 1, .cons q t => .cons q (Vals.set r i t)
theorem Vals.append : ∀ {xs ys : List V} {us ws : List Value}, Vals xs us → Vals ys ws → Vals (xs ++ ys) (us ++ ws)
  | _, _, _, _, .nil, s => s
  | _, _, _, _, .cons r t, s => .cons r (Vals.append t s)
theorem Vals.take : ∀ {xs : List V} {us : List Value} (n : Nat), Vals xs us → Vals (xs.take n) (us.take n)
  | _, _, 0, _ => .nil
  | _, _, _ + 1, .nil => .nil
  | _, _, n + 1, .cons r t => .cons r (Vals.take n t)
theorem Vals.drop : ∀ {xs : List V} {us : List Value} (n : Nat), Vals xs us → Vals (xs.drop n) (us.drop n)
  | _, _, 0, r => r
  | _, _, _ + 1, .nil => .nil
  | _, _, n + 1, .cons _ t => Vals.drop n t
def RelO : Option V → Option Value → Prop
  | some v, some u => RelV v u
  | none, none => True
  | _, _ => False
def KV {κ : Type} : List (κ × V) → List (κ × Value) → Prop := Paired fun (p : κ × V) (q : κ × Value) => p.1 = q.1 ∧ RelV p.2 q.2
def kV : Key → V
  | .inl i => .int i
  | .inr x => .str x
inductive HO where
  | lst (xs : List V)
  | tup (xs : List V)
  | dK (kvs : List (Key × V)) | dT (kvs : List (List Key × V))
  | set (S : Int → Bool) (n : Nat)
  | ins (C dx : Addr) (fs : List (Str × V))
  | own (x : Addr)
  | xd (fs : List (Str × V))
  | met (f x : Addr)
  | rng (lo hi : Int)
  | frz (o : Obj) (u : HO)
  | tbl (ps : Array Value)
  | ext (φ : Heap → Prop)
abbrev Hp := Addr → Option HO
def upd (H : Hp) (a : Addr) (o : HO) : Hp := fun b => if b = a then some o else H b
theorem upd_same {H : Hp} {a : Addr} {o : HO} : upd H a o a = some o := by unfold upd; rw [if_pos rfl]
theorem upd_ne {H : Hp} {a b : Addr} {o : HO} (h : b ≠ a) : upd H a o b = H b := by unfold upd; rw [if_neg h]
theorem ne_of_none {H : Hp} {a b : Addr} {o : HO} (h : H a = some o) (h' : H b = none) : a ≠ b := by
  intro e; subst e; rw [h] at h'; cases h'
section
variable (P : Program) (w : World)
def ObjOk (H : Hp) (h : Heap) (a : Addr) : HO → Prop
  | .lst xs => xs.length ≤ sizeLine ∧ ∃ (its : List Value) (n : Nat), Vals xs its ∧ h.get? a = some { cls := .type "list", data := .seq its.toArray n }
  | .tup xs => xs.length ≤ sizeLine ∧ ∃ its : List Value, Vals xs its ∧ IsTup h a its.toArray
  | .dK kvs => kvs.length ≤ sizeLine ∧ (a == sysModules) = false ∧ ∃ vs, KV kvs vs ∧ h.DictOf (mixKind P w) a vs
  | .dT kvs => kvs.length ≤ sizeLine ∧ (a == sysModules) = false ∧ ∃ xs : List (List Key × Addr × Value),
      Paired (fun (p : List Key × V) (q : List Key × Addr × Value) => p.1 = q.1 ∧ H q.2.1 = some (.tup (p.1.map kV)) ∧ RelV p.2 q.2.2) kvs xs ∧
      ∃ o es ep, h.get? a = some o ∧ o.ExactDict ∧ o.data = .dict es ep ∧ es.toList = xs.map (entryOfKey (tupleKind (mixKind P w))) ∧ (xs.map (·.1)).Nodup
  | .set S n => h.SetOf (intKind P w) a S n
  | .ins C dx fs => H dx = some (.own a) ∧ fs.length ≤ 1000 ∧ dx ≠ a ∧ h.get? a = some (PySem.W.instObj C dx) ∧
      ∃ mA, h.Ns1 dx mA ∧ (∀ f, RelO (fs.lookup f) (mA f)) ∧ PySem.Within mA (fs.map (·.1))
  | .own _ => ∃ o, h.get? a = some o
  | .xd fs => ∃ mA, h.Ns1 a mA ∧ ∀ f, RelO (fs.lookup f) (mA f)
  | .rng lo hi => ∃ t u v, h.get? a = some { cls := .type "range", data := .fields #[.int lo t, .int hi u, .int 1 v] }
  | .frz o u => h.get? a = some o ∧ ObjOk H h a u
  | .tbl ps => h.get? a = some { cls := .none, data := .fields ps }
  | .met f x => h.get? a = some (PySem.W.methodObj (.ref f) (.ref x))
  | .ext φ => φ h ∧ (∃ o, h.get? a = some o) ∧ ∀ h1 h2 : Heap, φ h1 → (∀ o, h1.get? a = some o → h2.get? a = some o) → φ h2
def HOk (H : Hp) (h : Heap) : Prop := ∀ a o, H a = some o → ObjOk P w H h a o
end
section
variable {P : Program} {w : World} {H H' : Hp} {h h' : Heap} {a : Addr} {o : HO}
theorem ObjOk.lt (x : ObjOk P w H h a o) : a < h.objs.size := by
  cases o with
  | lst xs => obtain ⟨_, _, _, _, e⟩ := x; exact Heap.lt_size e
  | tup xs => obtain ⟨_, _, _, p⟩ := x; exact p.lt
  | dK kvs => obtain ⟨_, _, _, _, o, _, _, e, _⟩ := x; exact Heap.lt_size e
  | dT kvs => obtain ⟨_, _, _, _, o, _, _, e, _⟩ := x; exact Heap.lt_size e
  | set S n => obtain ⟨o, _, _, _, e, _⟩ := x; exact Heap.lt_size e
  | ins C dx fs => obtain ⟨_, _, _, e, _⟩ := x; exact Heap.lt_size e
  | own y => obtain ⟨_, e⟩ := x; exact Heap.lt_size e
  | xd fs => obtain ⟨_, ⟨_, _, _, e, _⟩, _⟩ := x; exact Heap.lt_size e
  | rng lo hi => obtain ⟨_, _, _, e⟩ := x; exact Heap.lt_size e
  | frz ob u => obtain ⟨e, _⟩ := x; exact Heap.lt_size e
  | tbl ps => exact Heap.lt_size (show h.get? a = some _ from x)
  | met f y => exact Heap.lt_size (show h.get? a = some _ from x)
  | ext φ => obtain ⟨_, ⟨_, e⟩, _⟩ := x; exact Heap.lt_size e
theorem Paired.mapP {α β : Type} {F G : α → β → Prop} : ∀ {l₁ : List α} {l₂ : List β}, Paired F l₁ l₂ → (∀ a b, F a b → G a b) → Paired G l₁ l₂
  | _, _, .nil, _ => .nil
  | _, _, .cons r t, f => .cons (f _ _ r) (Paired.mapP t f)
theorem ObjOk.stay (x : ObjOk P w H h a o) (k : ∀ b u, (b = a ∨ H b = some (.own a)) → h.get? b = some u → h'.get? b = some u)
    (ho : ∀ b, H b = some (.own a) → H' b = some (.own a)) (ht : ∀ b xs, H b = some (.tup xs) → H' b = some (.tup xs)) : ObjOk P w H' h' a o := by
  induction o with
  | lst xs => obtain ⟨z, its, n, r, e⟩ := x; exact ⟨z, its, n, r, k _ _ (.inl rfl) e⟩
  | tup xs => obtain ⟨z, its, r, ob, e, c⟩ := x; exact ⟨z, its, r, ob, k _ _ (.inl rfl) e, c⟩
  | dK kvs => obtain ⟨z, y, vs, r, ob, es, ep, e, c⟩ := x; exact ⟨z, y, vs, r, ob, es, ep, k _ _ (.inl rfl) e, c⟩
  | dT kvs =>
    obtain ⟨z, y, xs, r, ob, es, ep, e, c⟩ := x
    exact ⟨z, y, xs, Paired.mapP r fun p q z => ⟨z.1, ht _ _ z.2.1, z.2.2⟩, ob, es, ep, k _ _ (.inl rfl) e, c⟩
  | set S n => obtain ⟨ob, es, ep, t, e, c⟩ := x; exact ⟨ob, es, ep, t, k _ _ (.inl rfl) e, c⟩
  | ins C dx fs =>
    obtain ⟨d, z, ne, e, mA, ⟨od, es, ep, e2, c⟩, r⟩ := x
    exact ⟨ho _ d, z, ne, k _ _ (.inl rfl) e, mA, ⟨od, es, ep, k _ _ (.inr d) e2, c⟩, r⟩
  | own y => obtain ⟨ob, e⟩ := x; exact ⟨ob, k _ _ (.inl rfl) e⟩
  | xd fs => obtain ⟨mA, ⟨od, es, ep, e, c⟩, r⟩ := x; exact ⟨mA, ⟨od, es, ep, k _ _ (.inl rfl) e, c⟩, r⟩
  | rng lo hi => obtain ⟨t, u, v, e⟩ := x; exact ⟨t, u, v, k _ _ (.inl rfl) e⟩
  | frz ob u ih => obtain ⟨e, q⟩ := x; exact ⟨k _ _ (.inl rfl) e, ih q⟩
  | tbl ps =>
    have e : h.get? a = some { cls := .none, data := .fields ps } := x
    show h'.get? a = some { cls := .none, data := .fields ps }
    exact k a _ (.inl rfl) e
  | met f y =>
    have e : h.get? a = some (PySem.W.methodObj (.ref f) (.ref y)) := x
    show h'.get? a = some (PySem.W.methodObj (.ref f) (.ref y))
    exact k a _ (.inl rfl) e
  | ext φ => obtain ⟨p, ⟨o, e⟩, st⟩ := x; exact ⟨st _ _ p fun o q => k _ _ (.inl rfl) q, ⟨o, k _ _ (.inl rfl) e⟩, st⟩
theorem HOk.lt (x : HOk P w H h) (e : H a = some o) : a < h.objs.size := (x a o e).lt
theorem HOk.fresh (x : HOk P w H h) (e : h.objs.size ≤ a) : H a = none := by
  cases q : H a with
  | none => rfl
  | some u => exact absurd (Nat.lt_of_lt_of_le (x.lt q) e) (Nat.lt_irrefl _)
theorem HOk.kept (x : HOk P w H h) (k : ∀ b u, h.get? b = some u → h'.get? b = some u) : HOk P w H h' := fun a o e =>
  (x a o e).stay (fun b u _ q => k b u q) (fun _ q => q) fun _ _ q => q
theorem HOk.laid (x : HOk P w H h) (k : ∀ b u, h.get? b = some u → h'.get? b = some u) (hp : h.objs.size ≤ a) (new : ObjOk P w (upd H a o) h' a o) : HOk P w (upd H a o) h' := fun b u e => by
  have hn := x.fresh hp
  by_cases hb : b = a
  · subst hb; rw [upd_same] at e; cases e; exact new
  · rw [upd_ne hb] at e
    exact (x b u e).stay (fun c v _ q => k c v q) (fun c q => by rw [upd_ne (ne_of_none q hn)]; exact q) fun c xs q => by rw [upd_ne (ne_of_none q hn)]; exact q
end
def Rd (H : Hp) (a : Addr) (u : HO) : Prop := H a = some u ∨ ∃ o, H a = some (.frz o u)
theorem Rd.of {H : Hp} {a : Addr} {u : HO} (h : H a = some u) : Rd H a u := .inl h
theorem Rd.ok {P : Program} {w : World} {H : Hp} {h : Heap} {a : Addr} {u : HO} (r : Rd H a u) (x : HOk P w H h) : ObjOk P w H h a u := by
  rcases r with r | ⟨o, r⟩
  · exact x a u r
  · obtain ⟨_, q⟩ := x a _ r
    exact q
def Mut : Option HO → Prop
  | some (.lst _) => True
  | some (.dK _) => True
  | some (.dT _) => True
  | some (.set _ _) => True
  | some (.ins _ _ _) => True
  | some (.ext _) => True
  | _ => False
section
variable {P : Program} {w : World} {H : Hp} {h h' : Heap} {x e : Addr} {o' : HO}
theorem HOk.write (ok : HOk P w H h) (mu : Mut (H x)) (he : e = x ∨ H e = some (.own x)) (k : ∀ b u, b ≠ e → h.get? b = some u → h'.get? b = some u) (heo : ∃ u, h'.get? e = some u)
    (new : ObjOk P w (upd H x o') h' x o') : HOk P w (upd H x o') h' := fun b u q => by
  have nown : ∀ c y, H c = some (.own y) → c ≠ x := fun c y r z => by subst z; rw [r] at mu; exact mu
  have ntup : ∀ c xs, H c = some (.tup xs) → c ≠ x := fun c xs r z => by subst z; rw [r] at mu; exact mu
  by_cases hb : b = x
  · subst hb; rw [upd_same] at q; cases q; exact new
  · rw [upd_ne hb] at q
    by_cases hbe : b = e
    · have q' : H b = some (.own x) := by
        rcases he with z | z
        · exact absurd (hbe.trans z) hb
        · rw [hbe]; exact z
      rw [q] at q'; cases q'
      obtain ⟨v, hv⟩ := heo
      exact ⟨v, by rw [hbe]; exact hv⟩
    · refine (ok b u q).stay (fun c v hc r => k c v ?_ r) (fun c r => by rw [upd_ne (nown c b r)]; exact r) fun c xs r => by rw [upd_ne (ntup c xs r)]; exact r
      rcases hc with rfl | hc
      · exact hbe
      · rintro rfl
        rcases he with z | z
        · exact nown c b hc z
        · rw [hc] at z; cases z; exact hb rfl
end
structure Un (fs ex : List Addr) (H H' : Hp) (h h' : Heap) : Prop where
  keep : ∀ b o, h.get? b = some o → H b = none → b ∉ fs → b ∉ ex → h'.get? b = some o
  slot : ∀ b o, h.get? b = some o → H b = none → b ∈ fs → b ∉ ex → ∃ sl, h'.get? b = some { o with slots := sl }
  free : ∀ b o, h.get? b = some o → H b = none → b ∉ ex → H' b = none
  there : ∀ b o, h.get? b = some o → b ∉ ex → ∃ o', h'.get? b = some o'
  tups : ∀ b xs, H b = some (.tup xs) → H' b = some (.tup xs)
  frzs : ∀ b o u, H b = some (.frz o u) → H' b = some (.frz o u)
  tbls : ∀ b ps, H b = some (.tbl ps) → ∃ more, H' b = some (.tbl (ps ++ more))
section
variable {fs fs' ex ex' : List Addr} {H H1 H2 : Hp} {h h1 h2 h' : Heap} {a x e : Addr} {o : HO}
theorem Un.any (u : Un fs ex H H1 h h1) {b : Addr} {ob : Obj} (q : h.get? b = some ob) (n : H b = none) (hx : b ∉ ex) : ∃ sl, h1.get? b = some { ob with slots := sl } := by
  by_cases hb : b ∈ fs
  · exact u.slot b ob q n hb hx
  · exact ⟨ob.slots, u.keep b ob q n hb hx⟩
theorem Un.trans (a : Un fs ex H H1 h h1) (b : Un fs ex H1 H2 h1 h2) : Un fs ex H H2 h h2 where
  keep := fun c ob q n hc hx => b.keep c ob (a.keep c ob q n hc hx) (a.free c ob q n hx) hc hx
  slot := fun c ob q n hc hx => by
    obtain ⟨sl, e1⟩ := a.slot c ob q n hc hx
    obtain ⟨sl', e2⟩ := b.slot c _ e1 (a.free c ob q n hx) hc hx
    exact ⟨sl', e2⟩
  free := fun c ob q n hx => by
    obtain ⟨o', e1⟩ := a.there c ob q hx
    exact b.free c o' e1 (a.free c ob q n hx) hx
  there := fun c ob q hx => by
    obtain ⟨o', e1⟩ := a.there c ob q hx
    exact b.there c o' e1 hx
  tups := fun c xs q => b.tups c xs (a.tups c xs q)
  frzs := fun c ob xs q => b.frzs c ob xs (a.frzs c ob xs q)
  tbls := fun c ps q => by
    obtain ⟨m1, e1⟩ := a.tbls c ps q
    obtain ⟨m2, e2⟩ := b.tbls c _ e1
    exact ⟨m1 ++ m2, by rw [e2, Array.append_assoc]⟩
theorem Un.kept (k : ∀ b u, h.get? b = some u → h'.get? b = some u) : Un fs ex H H h h' :=
  ⟨fun b ob q _ _ _ => k b ob q, fun b ob q _ _ _ => ⟨ob.slots, k b ob q⟩, fun _ _ _ n _ => n, fun b ob q _ => ⟨ob, k b ob q⟩, fun _ _ q => q, fun _ _ _ q => q, fun _ ps q => ⟨#[], by rw [q]; simp⟩⟩
theorem Un.refl : Un fs ex H H h h := Un.kept fun _ _ q => q
theorem Un.laid (k : ∀ b u, h.get? b = some u → h'.get? b = some u) (hp : h.objs.size ≤ a) (hn : H a = none) : Un fs ex H (upd H a o) h h' where
  keep := fun b u q _ _ _ => k b u q
  slot := fun b u q _ _ _ => ⟨u.slots, k b u q⟩
  free := fun b u q n _ => by rw [upd_ne (Nat.ne_of_lt (Nat.lt_of_lt_of_le (Heap.lt_size q) hp))]; exact n
  there := fun b u q _ => ⟨u, k b u q⟩
  tups := fun b xs q => by rw [upd_ne (ne_of_none q hn)]; exact q
  frzs := fun b u xs q => by rw [upd_ne (ne_of_none q hn)]; exact q
  tbls := fun b ps q => ⟨#[], by rw [upd_ne (ne_of_none q hn), q]; simp⟩
theorem Un.write (mu : Mut (H x)) (he : e = x ∨ H e = some (.own x)) (k : ∀ b u, b ≠ e → h.get? b = some u → h'.get? b = some u) (heo : ∃ u, h'.get? e = some u) : Un fs ex H (upd H x o) h h' := by
  have hx : ∀ b, H b = none → b ≠ x := fun b n z => by subst z; rw [n] at mu; exact mu
  have hb : ∀ b, H b = none → b ≠ e := fun b n z => by
    subst z
    rcases he with r | r
    · exact hx b n r
    · rw [n] at r; cases r
  have hm : ∀ b u, H b = some u → ¬ Mut (some u) → b ≠ x := fun b u q nm z => by subst z; rw [q] at mu; exact nm mu
  refine ⟨fun b u q n _ _ => k b u (hb b n) q, fun b u q n _ _ => ⟨u.slots, k b u (hb b n) q⟩, fun b u q n _ => by rw [upd_ne (hx b n)]; exact n, fun b u q _ => ?_,
    fun b xs q => by rw [upd_ne (hm b _ q fun z => z)]; exact q, fun b u xs q => by rw [upd_ne (hm b _ q fun z => z)]; exact q, fun b ps q => ⟨#[], by rw [upd_ne (hm b _ q fun z => z), q]; simp⟩⟩
  by_cases hbe : b = e
  · subst hbe; exact heo
  · exact ⟨u, k b u hbe q⟩
theorem Un.mono (u : Un fs ex H H1 h h1) (hs : ∀ b ∈ fs, b ∈ fs') (hx : ∀ b ∈ ex, b ∈ ex') : Un fs' ex' H H1 h h1 :=
  ⟨fun b ob q n hb he => u.keep b ob q n (fun z => hb (hs b z)) fun z => he (hx b z), fun _ _ q n _ he => u.any q n fun z => he (hx _ z), fun b ob q n he => u.free b ob q n fun z => he (hx b z), fun b ob q he => u.there b ob q fun z => he (hx b z), u.tups, u.frzs, u.tbls⟩
end
def trk (h : Heap) (H : Hp) : List Addr := (List.range h.objs.size).filter fun a => (H a).isSome
def hidT (h : Heap) (H : Hp) : Heap := PySem.W.hideAll h (trk h H)
theorem hidT_size (h : Heap) (H : Hp) : (hidT h H).objs.size = h.objs.size := PySem.W.hideAll_size _ _
theorem hidT_get {h : Heap} {H : Hp} {b : Addr} {o : Obj} (e : h.get? b = some o) (n : H b = none) : (hidT h H).get? b = some o :=
  PySem.W.hideAll_get _ e fun hm => by
    have q : (H b).isSome = true := (List.mem_filter.mp hm).2
    rw [n] at q; simp at q
theorem of_hidT {h : Heap} {H : Hp} {b : Addr} {o : Obj} (e : (hidT h H).get? b = some o) : h.get? b = some o ∧ H b = none := by
  have e' : h.get? b = some o := PySem.W.of_hideAll (trk h H) e
  refine ⟨e', ?_⟩
  cases q : H b with
  | none => rfl
  | some x =>
    have hm : b ∈ trk h H := List.mem_filter.mpr ⟨List.mem_range.mpr (Heap.lt_size e'), by simp [q]⟩
    have z : (hidT h H).get? b = none := PySem.W.hideAll_none (trk h H) hm
    rw [z] at e; cases e
def allNews (g h : Heap) (L : Addr) : List (Addr × Obj) := (List.range h.objs.size).filterMap fun a => if a = L ∨ (g.get? a).isSome = true then none else (h.get? a).map fun o => (a, o)
def rest (g h : Heap) (L d : Addr) : List (Addr × Obj) := (allNews g h L).filter fun p => decide (p.1 ≠ d)
end L2
namespace L2
open PySem PySem.Spec PyProof.Rows
structure Mod (K : PySem.W.Frag) (mg : Str → Option Value) (base : Heap) : Prop where
  kin : K.In base
  glob : base.Ns mainGlobals mg
  blt : ∃ mb, base.Ns builtinsNs mb ∧ ∀ x : Str, x ≠ "__name__" → mb x = bootBuiltins x
  nolimit : base.NoLimit
structure Cx where
  prog : Program
  w : World
  K : PySem.W.Frag
  mg : Str → Option Value
  base : Heap
  A : Around
  N : List Str
  s_0 : Shared
  H_0 : Hp
  env : Env
  outer : List Env
  stack : List Env
  ex : List Addr
  fn : Str → Bool
  calm : Bool
  pn : List (Addr × Obj)
  xe : Value → Shared → Prop
def frs (l : List Env) : List Addr := l.filterMap (·.frame)
abbrev Cx.fs (X : Cx) : List Addr := frs X.outer
def Vis (sc : Scope) (x : Str) : Prop := sc.names.lookup x = some .local ∨ sc.names.lookup x = some .cell ∨ sc.names.lookup x = some .free
def Loc (sc : Scope) (x : Str) : Prop := sc.names.lookup x = some .local ∨ sc.names.lookup x = some .cell
def Look (env : Env) (h : Heap) (m : Str → Option Value) (x : Str) (u : Value) : Prop :=
  (env.kindOf x = some .local ∧ m x = some u) ∨ ((env.kindOf x = some .cell ∨ env.kindOf x = some .free) ∧ ∃ c, env.cells.lookup x = some c ∧ h.IsCell c (some u))
structure Cx.Ok (X : Cx) : Prop where
  mod : Mod X.K X.mg X.base
  kind : X.env.scope.kind = .function
  glob : X.env.globals = mainGlobals
  blt : X.env.builtins = builtinsNs
  above : X.s_0.heap.objs.size ≤ X.env.locals
  inj : ∀ x y c, X.env.cells.lookup x = some c → X.env.cells.lookup y = some c → x = y
  has : ∀ x, (X.env.kindOf x = some .cell ∨ X.env.kindOf x = some .free) → ∃ c, X.env.cells.lookup x = some c
  cab : ∀ x c, X.fn x = true → X.env.cells.lookup x = some c → X.s_0.heap.objs.size ≤ c
  hd : X.calm = true → X.A.handled = none
  frames : X.A.frames = some X.stack
  stk : X.stack = X.outer ∨ (X.stack = X.env :: X.outer ∧ X.env.frame = some X.env.locals)
  exf : ∀ b ∈ X.ex, b ≠ X.env.locals ∧ ∀ x c, X.env.cells.lookup x = some c → c ≠ b
  bs : ∀ b o, X.base.get? b = some o → X.s_0.heap.get? b = some o ∧ X.H_0 b = none
  bsz : X.base.objs.size ≤ X.s_0.heap.objs.size
  noex : ∀ b o, X.base.get? b = some o → b ∉ X.ex
  exfs : ∀ b ∈ X.ex, b ∉ X.fs
  funs : X.s_0.heap.FunFrames X.base X.outer
  frf : ∀ b ∈ X.fs, X.H_0 b = none
structure Inv (X : Cx) (pins : List (Addr × Obj)) (σ : List (Option V)) (H : Hp) (s : Shared) : Prop where
  ok : X.Ok
  os : s.os = X.s_0.os
  bare : AllBare s.gens
  base : Un X.fs X.ex X.H_0 H X.s_0.heap s.heap
  loc : ∃ m, s.heap.Ns X.env.locals m ∧ ∀ (i : Nat) (x : Str) (v : V), X.N[i]? = some x → σ[i]? = some (some v) → Vis X.env.scope x → ∃ u, RelV v u ∧ Look X.env s.heap m x u
  cell : ∀ x c, X.env.cells.lookup x = some c → ∃ v, s.heap.IsCell c v
  free : H X.env.locals = none
  freeC : ∀ x c, X.env.cells.lookup x = some c → H c = none
  pin : ∀ p ∈ X.pn ++ pins, s.heap.get? p.1 = some p.2 ∧ H p.1 = none ∧ p.1 ≠ X.env.locals ∧ p.1 ∉ X.fs ∧ ∀ v, p.2.data ≠ .cell v
  hok : HOk X.prog X.w H s.heap
  len : σ.length = X.N.length
section
variable {X : Cx} {pins : List (Addr × Obj)} {σ : List (Option V)} {H H' : Hp} {s : Shared} {h' : Heap}
theorem Cx.Ok.nofr (ok : X.Ok) {b : Addr} {o : Obj} (e : X.base.get? b = some o) : b ∉ X.fs := fun hb => by
  have := (ok.funs.mem hb).1
  rw [e] at this; cases this
theorem Inv.bs (I : Inv X pins σ H s) : ∀ b o, X.base.get? b = some o → s.heap.get? b = some o ∧ H b = none := fun b o e =>
  ⟨I.base.keep b o (I.ok.bs b o e).1 (I.ok.bs b o e).2 (I.ok.nofr e) (I.ok.noex b o e), I.base.free b o (I.ok.bs b o e).1 (I.ok.bs b o e).2 (I.ok.noex b o e)⟩
theorem Inv.bk (I : Inv X pins σ H s) : ∀ b o, X.base.get? b = some o → s.heap.get? b = some o := fun b o e => (I.bs b o e).1
theorem Inv.mod (I : Inv X pins σ H s) : Mod X.K X.mg X.base := I.ok.mod
theorem Inv.kIn (I : Inv X pins σ H s) : X.K.In s.heap := I.ok.mod.kin.keeps I.bk
theorem Inv.nolimit (I : Inv X pins σ H s) : s.heap.NoLimit := I.ok.mod.nolimit.keeps I.bk
theorem Inv.fr (I : Inv X pins σ H s) : ∃ m, Fr X.base X.env.locals s.heap m :=
  let ⟨m, hn, _⟩ := I.loc
  ⟨m, hn, I.bk, Nat.le_trans I.ok.bsz I.ok.above⟩
theorem Inv.lt (I : Inv X pins σ H s) : X.env.locals < s.heap.objs.size := let ⟨_, hn, _⟩ := I.loc; hn.lt
theorem Inv.sz (I : Inv X pins σ H s) : X.s_0.heap.objs.size ≤ s.heap.objs.size := Nat.le_trans I.ok.above (Nat.le_of_lt I.lt)
theorem Inv.nofs (I : Inv X pins σ H s) {a : Addr} (h : s.heap.objs.size ≤ a) : a ∉ X.fs := fun hb => by
  obtain ⟨_, o, ho, _⟩ := I.ok.funs.mem hb
  exact absurd (Nat.lt_of_lt_of_le (Heap.lt_size ho) (Nat.le_trans I.sz h)) (Nat.lt_irrefl _)
theorem Inv.cne (I : Inv X pins σ H s) : ∀ x c, X.env.cells.lookup x = some c → c ≠ X.env.locals := fun x c e z => by
  obtain ⟨v, o, ho, hd⟩ := I.cell x c e
  obtain ⟨m, ⟨o', es, ep, ho', hd', _⟩, _⟩ := I.loc
  rw [z, ho'] at ho; cases ho; rw [hd'] at hd; cases hd
theorem Inv.funs (I : Inv X pins σ H s) : s.heap.FunFrames X.base X.outer := by
  have all : ∀ (l : List Env), (∀ b ∈ frs l, b ∈ X.fs) → X.s_0.heap.FunFrames X.base l → s.heap.FunFrames X.base l := by
    intro l
    induction l with
    | nil => intro _ _; trivial
    | cons env r ih =>
      intro hs hl
      obtain ⟨hk, ⟨L, o, hf, hn, ho, hd⟩, hr⟩ := hl
      have hL : L ∈ X.fs := hs L (by unfold frs; rw [List.filterMap_cons, hf]; exact List.mem_cons_self)
      obtain ⟨sl, e⟩ := I.base.slot L o ho (I.ok.frf L hL) hL fun z => I.ok.exfs L z hL
      exact ⟨hk, ⟨L, _, hf, hn, e, hd⟩, ih (fun b hb => hs b (by unfold frs; rw [List.filterMap_cons, hf]; exact List.mem_cons_of_mem _ hb)) hr⟩
  exact all X.outer (fun _ hb => hb) I.ok.funs
theorem Inv.stack (I : Inv X pins σ H s) : s.heap.FunFrames X.base X.stack := by
  rcases I.ok.stk with e | ⟨e, hf⟩
  · rw [e]; exact I.funs
  · rw [e]
    obtain ⟨m, hn, _⟩ := I.loc
    refine .cons (by rw [I.ok.kind]; decide) hf hn ?_ I.funs
    exact Heap.get?_none_of_le (Nat.le_trans I.ok.bsz I.ok.above)
theorem Inv.stkSub (I : Inv X pins σ H s) : ∀ b ∈ frs X.stack, b ∈ X.env.locals :: X.fs := fun b hb => by
  rcases I.ok.stk with e | ⟨e, hf⟩
  · rw [e] at hb; exact List.mem_cons_of_mem _ hb
  · rw [e] at hb
    unfold frs at hb
    rw [List.filterMap_cons, hf] at hb
    exact hb
theorem Inv.stkFree (I : Inv X pins σ H s) : ∀ b ∈ frs X.stack, H b = none := fun b hb => by
  rcases List.mem_cons.mp (I.stkSub b hb) with e | hb
  · rw [e]; exact I.free
  · obtain ⟨_, o, ho, _⟩ := I.ok.funs.mem hb
    exact I.base.free b o ho (I.ok.frf b hb) fun z => I.ok.exfs b z hb
theorem Inv.step {g' : Array GenState} {t' : Nat} {d' : Drawn} {ch : List Addr} (I : Inv X pins σ H s)
    (hch : ∀ b ∈ ch, (b ∈ X.ex ∨ X.s_0.heap.objs.size ≤ b) ∧ b ≠ X.env.locals ∧ (∀ x c, X.env.cells.lookup x = some c → c ≠ b) ∧ ∀ p ∈ X.pn ++ pins, p.1 ≠ b)
    (keep : ∀ b o, b ≠ X.env.locals → b ∉ X.fs → b ∉ ch → s.heap.get? b = some o → H b = none → h'.get? b = some o)
    (slot : ∀ b o, b ≠ X.env.locals → b ∈ X.fs → b ∉ ch → s.heap.get? b = some o → H b = none → ∃ sl, h'.get? b = some { o with slots := sl }) (free : ∀ b o, b ∉ ch → s.heap.get? b = some o → H b = none → H' b = none)
    (there : ∀ b o, b ∉ ch → s.heap.get? b = some o → ∃ o', h'.get? b = some o')
    (tups : ∀ b xs, H b = some (.tup xs) → H' b = some (.tup xs)) (frzs : ∀ b o u, H b = some (.frz o u) → H' b = some (.frz o u)) (tbls : ∀ b ps, H b = some (.tbl ps) → ∃ more, H' b = some (.tbl (ps ++ more)))
    (ns : ∀ m, s.heap.Ns X.env.locals m → h'.Ns X.env.locals m) (hok : HOk X.prog X.w H' h') (hg : AllBare g') :
    Inv X pins σ H' { s with heap := h', gens := g', drawn := d', toks := t' } := by
  have neL : ∀ b o, X.s_0.heap.get? b = some o → b ≠ X.env.locals := fun b o e => Nat.ne_of_lt (Nat.lt_of_lt_of_le (Heap.lt_size e) I.ok.above)
  have neC : ∀ b o, X.s_0.heap.get? b = some o → b ∉ X.ex → b ∉ ch := fun b o e hx hb => by
    rcases (hch b hb).1 with z | z
    · exact hx z
    · exact absurd (Nat.lt_of_lt_of_le (Heap.lt_size e) z) (Nat.lt_irrefl _)
  have cellK : ∀ x c, X.env.cells.lookup x = some c → ∀ v, s.heap.IsCell c v → h'.IsCell c v := fun x c e v ⟨o, ho, hd⟩ => by
    have nch : c ∉ ch := fun z => (hch c z).2.2.1 x c e rfl
    by_cases hc : c ∈ X.fs
    · obtain ⟨sl, q⟩ := slot c o (I.cne x c e) hc nch ho (I.freeC x c e)
      exact ⟨_, q, hd⟩
    · exact ⟨o, keep c o (I.cne x c e) hc nch ho (I.freeC x c e), hd⟩
  refine ⟨I.ok, I.os, hg, ⟨fun b o e n hb hx => ?_, fun b o e n hb hx => ?_, fun b o e n hx => ?_, fun b o e hx => ?_, fun b xs e => tups b xs (I.base.tups b xs e), fun b o xs e => frzs b o xs (I.base.frzs b o xs e), fun b ps e => ?_⟩, ?_, fun x c e => ?_, ?_, fun x c e => ?_, fun p hp => ?_, hok, I.len⟩
  · exact keep b o (neL b o e) hb (neC b o e hx) (I.base.keep b o e n hb hx) (I.base.free b o e n hx)
  · obtain ⟨sl, e1⟩ := I.base.slot b o e n hb hx
    obtain ⟨sl', e2⟩ := slot b _ (neL b o e) hb (neC b o e hx) e1 (I.base.free b o e n hx)
    exact ⟨sl', e2⟩
  · obtain ⟨o', e1⟩ := I.base.there b o e hx
    exact free b o' (neC b o e hx) e1 (I.base.free b o e n hx)
  · obtain ⟨o', e1⟩ := I.base.there b o e hx
    exact there b o' (neC b o e hx) e1
  · obtain ⟨m1, e1⟩ := I.base.tbls b ps e
    obtain ⟨m2, e2⟩ := tbls b _ e1
    exact ⟨m1 ++ m2, by rw [e2, Array.append_assoc]⟩
  · obtain ⟨m, hn, hl⟩ := I.loc
    refine ⟨m, ns m hn, fun i x v e1 e2 e3 => ?_⟩
    obtain ⟨u, r, l⟩ := hl i x v e1 e2 e3
    refine ⟨u, r, ?_⟩
    rcases l with l | ⟨k, c, e, z⟩
    · exact .inl l
    · exact .inr ⟨k, c, e, cellK x c e _ z⟩
  · obtain ⟨v, z⟩ := I.cell x c e
    exact ⟨v, cellK x c e v z⟩
  · obtain ⟨m, ⟨o, _, _, ho, _⟩, _⟩ := I.loc
    exact free _ o (fun z => (hch _ z).2.1 rfl) ho I.free
  · obtain ⟨v, o, ho, hd⟩ := I.cell x c e
    exact free c o (fun z => (hch c z).2.2.1 x c e rfl) ho (I.freeC x c e)
  · obtain ⟨e, n, ne, nf, d⟩ := I.pin p hp
    have nch : p.1 ∉ ch := fun z => (hch p.1 z).2.2.2 p hp rfl
    exact ⟨keep p.1 p.2 ne nf nch e n, free p.1 p.2 nch e n, ne, nf, d⟩
theorem Inv.un {t' : Nat} (I : Inv X pins σ H s) (u : Un X.fs [] H H' s.heap h') (hok : HOk X.prog X.w H' h') : Inv X pins σ H' { s with heap := h', toks := t' } := by
  obtain ⟨m, ⟨o, es, ep, ho, r⟩, _⟩ := id I.loc
  obtain ⟨sl, hL⟩ := u.any ho I.free (by simp)
  exact I.step (g' := s.gens) (d' := s.drawn) (ch := []) (fun _ z => nomatch z) (fun b o _ hb _ e n => u.keep b o e n hb (by simp)) (fun b o _ hb _ e n => u.slot b o e n hb (by simp)) (fun b o _ e n => u.free b o e n (by simp)) (fun b o _ e => u.there b o e (by simp)) u.tups u.frzs u.tbls (fun m' hm => by
    obtain ⟨o', es', ep', ho', r'⟩ := hm
    rw [ho] at ho'; cases ho'
    exact ⟨_, es', ep', hL, r'⟩) hok I.bare
theorem Inv.call {g' : Array GenState} {t' : Nat} {d' : Drawn} {ch : List Addr} (I : Inv X pins σ H s) (u : Un (frs X.stack) ch H H' s.heap h') (hok : HOk X.prog X.w H' h') (hg : AllBare g')
    (hch : ∀ b ∈ ch, (b ∈ X.ex ∨ X.s_0.heap.objs.size ≤ b) ∧ b ≠ X.env.locals ∧ (∀ x c, X.env.cells.lookup x = some c → c ≠ b) ∧ ∀ p ∈ X.pn ++ pins, p.1 ≠ b) :
    Inv X pins σ H' { s with heap := h', gens := g', drawn := d', toks := t' } := by
  obtain ⟨m, ⟨o, es, ep, ho, r⟩, _⟩ := id I.loc
  obtain ⟨sl, hL⟩ := u.any ho I.free fun z => (hch _ z).2.1 rfl
  exact I.step (ch := ch) hch (fun b o hL hb hc e n => u.keep b o e n (fun z => (List.mem_cons.mp (I.stkSub b z)).elim hL hb) hc) (fun b o _ _ hc e n => u.any e n hc) (fun b o hc e n => u.free b o e n hc) (fun b o hc e => u.there b o e hc) u.tups u.frzs u.tbls (fun m' hm => by
    obtain ⟨o', es', ep', ho', r'⟩ := hm
    rw [ho] at ho'; cases ho'
    exact ⟨_, es', ep', hL, r'⟩) hok hg
theorem Inv.turned {t' : Nat} {it : Addr} (I : Inv X pins σ H s) (k : ∀ b o, b ≠ it → s.heap.get? b = some o → h'.get? b = some o) (hn : H it = none) (hL : it ≠ X.env.locals)
    (h1 : it ∈ X.ex ∨ X.s_0.heap.objs.size ≤ it) (h2 : ∀ x c, X.env.cells.lookup x = some c → c ≠ it) (h3 : ∀ p ∈ X.pn ++ pins, p.1 ≠ it) : Inv X pins σ H { s with heap := h', toks := t' } := by
  have nit : ∀ b u, H b = some u → b ≠ it := fun b u e z => by rw [z, hn] at e; cases e
  refine I.step (g' := s.gens) (d' := s.drawn) (ch := [it]) (fun b hb => ?_) (fun b o _ _ hc e _ => k b o (fun z => hc (by simp [z])) e) (fun b o _ _ hc e _ => ⟨o.slots, k b o (fun z => hc (by simp [z])) e⟩) (fun _ _ _ _ n => n)
    (fun b o hc e => ⟨o, k b o (fun z => hc (by simp [z])) e⟩) (fun _ _ e => e) (fun _ _ _ e => e) (fun b ps e => ⟨#[], by rw [e]; simp⟩) (fun m hm => ?_) (fun b u e => ?_) I.bare
  · have e : b = it := by simpa using hb
    subst e
    exact ⟨h1, hL, h2, h3⟩
  · obtain ⟨o, es, ep, ho, r⟩ := hm
    exact ⟨o, es, ep, k _ o (Ne.symm hL) ho, r⟩
  · refine (I.hok b u e).stay (fun c v hc q => k c v ?_ q) (fun _ q => q) fun _ _ q => q
    rcases hc with z | z
    · rw [z]; exact nit b u e
    · exact nit c _ z
theorem Inv.tok (I : Inv X pins σ H s) (t : Nat) : Inv X pins σ H { s with toks := t } := I.un (h' := s.heap) (t' := t) Un.refl I.hok
theorem Inv.kept {t' : Nat} (I : Inv X pins σ H s) (k : ∀ b u, s.heap.get? b = some u → h'.get? b = some u) : Inv X pins σ H { s with heap := h', toks := t' } := I.un (Un.kept k) (I.hok.kept k)
theorem Inv.laid {a : Addr} {o : HO} {t' : Nat} (I : Inv X pins σ H s) (k : ∀ b u, s.heap.get? b = some u → h'.get? b = some u) (hp : s.heap.objs.size ≤ a) (new : ObjOk X.prog X.w (upd H a o) h' a o) :
    Inv X pins σ (upd H a o) { s with heap := h', toks := t' } := I.un (Un.laid k hp (I.hok.fresh hp)) (I.hok.laid k hp new)
theorem Inv.write {x e : Addr} {o : HO} {t' : Nat} (I : Inv X pins σ H s) (mu : Mut (H x)) (he : e = x ∨ H e = some (.own x)) (k : ∀ b u, b ≠ e → s.heap.get? b = some u → h'.get? b = some u) (heo : ∃ u, h'.get? e = some u)
    (new : ObjOk X.prog X.w (upd H x o) h' x o) : Inv X pins σ (upd H x o) { s with heap := h', toks := t' } := I.un (Un.write mu he k heo) (I.hok.write mu he k heo new)
theorem Inv.weak {σ' : List (Option V)} (I : Inv X pins σ H s) (hl : σ'.length = σ.length) (w : ∀ (i : Nat) v, σ'[i]? = some (some v) → σ[i]? = some (some v)) : Inv X pins σ' H s :=
  ⟨I.ok, I.os, I.bare, I.base, let ⟨m, hn, hl'⟩ := I.loc; ⟨m, hn, fun i x v e1 e2 e3 => hl' i x v e1 (w i v e2) e3⟩, I.cell, I.free, I.freeC, I.pin, I.hok, hl.trans I.len⟩
theorem Inv.pins_of {pins' : List (Addr × Obj)} (I : Inv X pins σ H s) (h : ∀ p ∈ pins', s.heap.get? p.1 = some p.2 ∧ H p.1 = none ∧ p.1 ≠ X.env.locals ∧ p.1 ∉ X.fs ∧ ∀ v, p.2.data ≠ .cell v) : Inv X pins' σ H s :=
  ⟨I.ok, I.os, I.bare, I.base, I.loc, I.cell, I.free, I.freeC, fun p hp => (List.mem_append.mp hp).elim (fun z => I.pin p (List.mem_append_left _ z)) (h p), I.hok, I.len⟩
theorem nodup_ix {N : List Str} (hN : N.Nodup) {i j : Nat} {x : Str} (a : N[i]? = some x) (b : N[j]? = some x) : i = j := by
  obtain ⟨h1, e1⟩ := List.getElem?_eq_some_iff.mp a
  obtain ⟨h2, e2⟩ := List.getElem?_eq_some_iff.mp b
  exact (List.getElem_inj hN).mp (e1.trans e2.symm)
theorem store_ok2 {M : Model} {A : Around} {E : Value → Shared → Prop} {i : Nat} {x : Str} {v : V} {u : Value} {Q : Unit → Shared → Prop} (I : Inv X pins σ H s) (hN : X.N.Nodup) (hi : X.N[i]? = some x) (hx : Loc X.env.scope x) (r : RelV v u)
    (h : ∀ s', Inv X pins (σ.set i (some v)) H s' → (∃ a, Heap.SameBut a s.heap s'.heap ∧ (a = X.env.locals ∨ X.env.cells.lookup x = some a)) → Q () s') (hf : X.fn x = true ∨ X.env.scope.names.lookup x = some .local := by first | exact .inl rfl | exact .inr rfl | assumption) : wpAny M A (storeName X.env x u) Q E s := by
  obtain ⟨m, hn, hl⟩ := id I.loc
  have hcls : (X.env.scope.kind == .class || (X.env.scope.kind == .module && X.env.locals != X.env.globals)) = false := by rw [I.ok.kind]; rfl
  have hiσ : i < σ.length := by rw [I.len]; exact (List.getElem?_eq_some_iff.mp hi).1
  have cne := I.cne
  have tracked : ∀ {a : Addr} {h' : Heap}, (∃ o, s.heap.get? a = some o ∧ H a = none) → Heap.SameBut a s.heap h' → HOk X.prog X.w H h' := fun {a h'} ha hs b ob e => by
    obtain ⟨_, _, hfree⟩ := ha
    refine (I.hok b ob e).stay (fun c w' hc q => (hs.2 c ?_).trans q) (fun _ q => q) fun _ _ q => q
    rintro rfl
    rcases hc with rfl | hc
    · rw [hfree] at e; cases e
    · rw [hfree] at hc; cases hc
  rcases hx with hk | hk
  · refine wpAny_storeName_local hk hn (fun h' hn' hs => ?_) hcls
    obtain ⟨oL, _, _, hoL, _⟩ := id hn
    refine h _ ⟨I.ok, I.os, I.bare, ⟨fun b o e n hb hx => ?_, fun b o e n hb hx => ?_, I.base.free, fun b o e hx => ?_, I.base.tups, I.base.frzs, I.base.tbls⟩, ⟨_, hn', fun j y v' e1 e2 e3 => ?_⟩, fun y c e => ?_, I.free, I.freeC, fun p hp => ?_, tracked ⟨oL, hoL, I.free⟩ hs, by simpa using I.len⟩ ⟨_, hs, .inl rfl⟩
    · exact (hs.2 b (Nat.ne_of_lt (Nat.lt_of_lt_of_le (Heap.lt_size e) I.ok.above))).trans (I.base.keep b o e n hb hx)
    · obtain ⟨sl, e1⟩ := I.base.slot b o e n hb hx
      exact ⟨sl, (hs.2 b (Nat.ne_of_lt (Nat.lt_of_lt_of_le (Heap.lt_size e) I.ok.above))).trans e1⟩
    · obtain ⟨o', e1⟩ := I.base.there b o e hx
      exact ⟨o', (hs.2 b (Nat.ne_of_lt (Nat.lt_of_lt_of_le (Heap.lt_size e) I.ok.above))).trans e1⟩
    · by_cases hj : j = i
      · subst hj
        rw [hi] at e1; cases e1
        rw [List.getElem?_set_self hiσ] at e2
        cases e2
        exact ⟨u, r, .inl ⟨hk, by simp⟩⟩
      · rw [List.getElem?_set_ne (Ne.symm hj)] at e2
        obtain ⟨u', r', q⟩ := hl j y v' e1 e2 e3
        refine ⟨u', r', ?_⟩
        rcases q with ⟨k, e⟩ | ⟨k, c, e, z⟩
        · refine .inl ⟨k, ?_⟩
          have : y ≠ x := fun e => hj (nodup_ix hN e1 (e ▸ hi))
          simp [this, e]
        · exact .inr ⟨k, c, e, z.sameBut hs (cne y c e)⟩
    · obtain ⟨w', z⟩ := I.cell y c e
      exact ⟨w', z.sameBut hs (cne y c e)⟩
    · obtain ⟨e, n, ne, nf, d⟩ := I.pin p hp
      exact ⟨(hs.2 p.1 ne).trans e, n, ne, nf, d⟩
  · have hfn : X.fn x = true := by
      rcases hf with z | z
      · exact z
      · rw [z] at hk; cases hk
    obtain ⟨c, hc⟩ := I.ok.has x (.inl hk)
    obtain ⟨w', z⟩ := I.cell x c hc
    refine wpAny_storeName_cell I.ok.kind hk hc z (fun h' hc' hs => ?_)
    obtain ⟨oc, hoc, hocd⟩ := id z
    refine h { s with heap := h' } ⟨I.ok, I.os, I.bare, ⟨fun b o e n hb hx => ?_, fun b o e n hb hx => ?_, I.base.free, fun b o e hx => ?_, I.base.tups, I.base.frzs, I.base.tbls⟩, ⟨m, hn.sameBut hs (Ne.symm (cne x c hc)), fun j y v' e1 e2 e3 => ?_⟩, fun y c' e => ?_, I.free, I.freeC, fun p hp => ?_, tracked ⟨oc, hoc, I.freeC x c hc⟩ hs, by simpa using I.len⟩ ⟨c, hs, .inr hc⟩
    · exact (hs.2 b (Nat.ne_of_lt (Nat.lt_of_lt_of_le (Heap.lt_size e) (I.ok.cab x c hfn hc)))).trans (I.base.keep b o e n hb hx)
    · obtain ⟨sl, e1⟩ := I.base.slot b o e n hb hx
      exact ⟨sl, (hs.2 b (Nat.ne_of_lt (Nat.lt_of_lt_of_le (Heap.lt_size e) (I.ok.cab x c hfn hc)))).trans e1⟩
    · obtain ⟨o', e1⟩ := I.base.there b o e hx
      exact ⟨o', (hs.2 b (Nat.ne_of_lt (Nat.lt_of_lt_of_le (Heap.lt_size e) (I.ok.cab x c hfn hc)))).trans e1⟩
    · by_cases hj : j = i
      · subst hj
        rw [hi] at e1; cases e1
        rw [List.getElem?_set_self hiσ] at e2
        cases e2
        exact ⟨u, r, .inr ⟨.inl hk, c, hc, hc'⟩⟩
      · rw [List.getElem?_set_ne (Ne.symm hj)] at e2
        obtain ⟨u', r', q⟩ := hl j y v' e1 e2 e3
        refine ⟨u', r', ?_⟩
        rcases q with q | ⟨k, c', e, z'⟩
        · exact .inl q
        · refine .inr ⟨k, c', e, z'.sameBut hs ?_⟩
          rintro rfl
          exact hj (nodup_ix hN e1 (I.ok.inj _ _ _ e hc ▸ hi))
    · by_cases hcc : c' = c
      · subst hcc; exact ⟨_, hc'⟩
      · obtain ⟨w2, z2⟩ := I.cell y c' e
        exact ⟨w2, z2.sameBut hs hcc⟩
    · obtain ⟨e, n, ne, nf, d⟩ := I.pin p hp
      refine ⟨(hs.2 p.1 ?_).trans e, n, ne, nf, d⟩
      intro q
      rw [q, hoc] at e
      have q' : oc = p.2 := Option.some.inj e
      exact d w' (by rw [← q']; exact hocd)
theorem store_ok {M : Model} {A : Around} {E : Value → Shared → Prop} {i : Nat} {x : Str} {v : V} {u : Value} {Q : Unit → Shared → Prop} (I : Inv X pins σ H s) (hN : X.N.Nodup) (hi : X.N[i]? = some x) (hx : Loc X.env.scope x) (r : RelV v u)
    (h : ∀ s', Inv X pins (σ.set i (some v)) H s' → Q () s') (hf : X.fn x = true ∨ X.env.scope.names.lookup x = some .local := by first | exact .inl rfl | exact .inr rfl | assumption) : wpAny M A (storeName X.env x u) Q E s :=
  store_ok2 I hN hi hx r (fun s' I' _ => h s' I') hf
theorem Inv.call' {s' : Shared} {ch : List Addr} (I : Inv X pins σ H s) (ho : s'.os = s.os) (u : Un (frs X.stack) ch H H' s.heap s'.heap) (hok : HOk X.prog X.w H' s'.heap) (hg : AllBare s'.gens)
    (hch : ∀ b ∈ ch, (b ∈ X.ex ∨ X.s_0.heap.objs.size ≤ b) ∧ b ≠ X.env.locals ∧ (∀ x c, X.env.cells.lookup x = some c → c ≠ b) ∧ ∀ p ∈ X.pn ++ pins, p.1 ≠ b) : Inv X pins σ H' s' := by
  obtain ⟨h', g', d', t', o'⟩ := s'
  have e : o' = s.os := ho
  subst e
  exact I.call (g' := g') (t' := t') (d' := d') u hok hg hch
end
abbrev XK := Value → Option Addr → Hp → Prop
abbrev St := List (Option V)
abbrev VK := V → Hp → Prop
abbrev TE := St → Hp → VK → Prop
abbrev TT := St → Hp → (Bool → Hp → Prop) → Prop
abbrev TA := St → Hp → (List V → Hp → Prop) → Prop
structure Ends where
  nx : St → Hp → Prop
  rt : VK
  bk : St → Hp → Prop := fun _ _ => False
  ct : St → Hp → Prop := fun _ _ => False
abbrev TS := Ends → St → Hp → Prop
def EP (X : Cx) (pins : List (Addr × Obj)) (σ : St) (Q : VK) (u : Value) (s' : Shared) : Prop := ∃ v H', Inv X pins σ H' s' ∧ RelV v u ∧ Q v H'
def TP (X : Cx) (pins : List (Addr × Obj)) (σ : St) (Q : Bool → Hp → Prop) (b : Bool) (s' : Shared) : Prop := ∃ H', Inv X pins σ H' s' ∧ Q b H'
def AP (X : Cx) (pins : List (Addr × Obj)) (σ : St) (Q : List V → Hp → Prop) (us : List Value) (s' : Shared) : Prop := ∃ vs H', Inv X pins σ H' s' ∧ Vals vs us ∧ Q vs H'
def SP (X : Cx) (pins : List (Addr × Obj)) (D : Ends) (f : Flow) (s' : Shared) : Prop :=
  match f with
  | .next => ∃ σ' H', Inv X pins σ' H' s' ∧ D.nx σ' H'
  | .brk => ∃ σ' H', Inv X pins σ' H' s' ∧ D.bk σ' H'
  | .cont => ∃ σ' H', Inv X pins σ' H' s' ∧ D.ct σ' H'
  | .ret u => ∃ v σ' H', Inv X pins σ' H' s' ∧ RelV v u ∧ D.rt v H'
def PE (X : Cx) (e : Expr) (t : TE) : Prop :=
  ∀ (pins : List (Addr × Obj)) (s : Shared) (σ : St) (H : Hp) (Q : VK), Inv X pins σ H s → t σ H Q → wpAny (model X.prog X.w) X.A (eval e X.env) (EP X pins σ Q) X.xe s
def PT (X : Cx) (e : Expr) (t : TT) : Prop :=
  ∀ (pins : List (Addr × Obj)) (s : Shared) (σ : St) (H : Hp) (Q : Bool → Hp → Prop), Inv X pins σ H s → t σ H Q → wpAny (model X.prog X.w) X.A (isTrue e X.env (eval e X.env)) (TP X pins σ Q) X.xe s
def PW (X : Cx) (e : Expr) (t : TT) : Prop :=
  ∀ (whole : Sem Value) (pins : List (Addr × Obj)) (s : Shared) (σ : St) (H : Hp) (Q : Bool → Hp → Prop), Inv X pins σ H s → t σ H Q → wpAny (model X.prog X.w) X.A (isTrue e X.env whole) (TP X pins σ Q) X.xe s
theorem PW.pt {X : Cx} {e : Expr} {t : TT} (h : PW X e t) : PT X e t := h _
def PA (X : Cx) (es : List Expr) (t : TA) : Prop :=
  ∀ (pos : Pos) (pins : List (Addr × Obj)) (s : Shared) (σ : St) (H : Hp) (Q : List V → Hp → Prop), Inv X pins σ H s → t σ H Q → wpAny (model X.prog X.w) X.A (spliced (backTo pos (starEach es X.env))) (AP X pins σ Q) X.xe s
def PS (X : Cx) (st : Stmt) (t : TS) : Prop :=
  ∀ (pins : List (Addr × Obj)) (s : Shared) (σ : St) (H : Hp) (D : Ends), Inv X pins σ H s → t D σ H → wpAny (model X.prog X.w) X.A (exec st X.env) (SP X pins D) X.xe s
def PSs (X : Cx) (st : List Stmt) (t : TS) : Prop :=
  ∀ (pins : List (Addr × Obj)) (s : Shared) (σ : St) (H : Hp) (D : Ends), Inv X pins σ H s → t D σ H → wpAny (model X.prog X.w) X.A (execs st X.env) (SP X pins D) X.xe s
theorem thn {α : Type} {t : Sem α} {Q Q' : α → Shared → Prop} {M : Model} {A : Around} {E : Value → Shared → Prop} {s : Shared} (h : wpAny M A t Q E s) (hQ : ∀ a s, Q a s → Q' a s) : wpAny M A t Q' E s := wpAny_mono h hQ fun _ _ x => x
end L2
namespace L2
open PySem PySem.Spec PyProof.Rows
section
variable {X : Cx}
def tVar (i : Nat) : TE := fun σ H Q => ∃ v, σ[i]? = some (some v) ∧ Q v H
def tC (v : V) : TE := fun _ H Q => Q v H
theorem pe_var {i : Nat} {x : Str} {pos : Pos} (hN : X.N[i]? = some x) (hv : Vis X.env.scope x) (hd : (x == ("__debug__" : Str)) = false := by decide) (hcd : (x == ("__classdict__" : Str)) = false := by decide) : PE X (.Name x pos) (tVar i) := by
  intro pins s σ H Q I h
  obtain ⟨v, e, h⟩ := h
  obtain ⟨m, hn, hl⟩ := I.loc
  obtain ⟨u, r, l⟩ := hl i x v hN e hv
  have fin : EP X pins σ Q u s := ⟨v, H, I, r, h⟩
  rcases l with ⟨hk, hm⟩ | ⟨hk, c, hc, hcell⟩
  · exact wpAny_Name (wpAny_loadName_local I.ok.kind hk hn hm fin) hd
  · rcases hk with hk | hk
    · exact wpAny_Name (wpAny_loadName_cell I.ok.kind hk hc hcell fin) hd
    · exact wpAny_Name (wpAny_loadName_free I.ok.kind hk hc hcell fin hcd) hd
theorem pe_int {i j pos} : PE X (.Constant (.int i) j pos) (tC (.int i)) := fun _ _ _ H _ I h => wpAny_Constant_int ⟨.int i, H, I.tok _, ⟨_, rfl⟩, h⟩
theorem pe_bl {b j pos} : PE X (.Constant (.bool b) j pos) (tC (.bl b)) := fun _ _ _ H _ I h => Constant_bool ⟨.bl b, H, I, rfl, h⟩
theorem pe_str {x j pos} : PE X (.Constant (.str x) j pos) (tC (.str x)) := fun _ _ _ H _ I h => Calls.Constant_str ⟨.str x, H, I.tok _, ⟨_, rfl⟩, h⟩
def Gl (X : Cx) (x : Str) : Prop := X.env.kindOf x = some .globalImplicit
theorem ld_glob {E : Value → Shared → Prop} {pins : List (Addr × Obj)} {s : Shared} {σ : St} {H : Hp} {x : Str} {u : Value} {pos : Pos} {Q : Value → Shared → Prop} (I : Inv X pins σ H s) (hg : Gl X x) (hm : X.mg x = some u) (h : Q u s)
    (hd : (x == ("__debug__" : Str)) = false := by decide) : wpAny (model X.prog X.w) X.A (eval (.Name x pos) X.env) Q E s :=
  Calls.Name_function_global I.ok.kind hg (Calls.loadGlobal_global (by rw [I.ok.glob]; exact I.mod.glob.keeps I.bk) hm h) hd
theorem ld_blt {E : Value → Shared → Prop} {pins : List (Addr × Obj)} {s : Shared} {σ : St} {H : Hp} {x : Str} {u : Value} {pos : Pos} {Q : Value → Shared → Prop} (I : Inv X pins σ H s) (hg : Gl X x) (hm : X.mg x = none) (hv : bootBuiltins x = some u) (h : Q u s)
    (hn : x ≠ "__name__" := by decide) (hd : (x == ("__debug__" : Str)) = false := by decide) : wpAny (model X.prog X.w) X.A (eval (.Name x pos) X.env) Q E s := by
  obtain ⟨mb, h1, h2⟩ := I.mod.blt
  exact Calls.Name_function_global I.ok.kind hg (Calls.loadGlobal_builtin (by rw [I.ok.glob]; exact I.mod.glob.keeps I.bk) hm (by rw [I.ok.blt]; exact h1.keeps I.bk) ((h2 x hn).trans hv) h) hd
theorem pe_glob {x : Str} {v : V} {u : Value} {pos : Pos} (hg : Gl X x) (hm : X.mg x = some u) (r : RelV v u) (hd : (x == ("__debug__" : Str)) = false := by decide) : PE X (.Name x pos) (tC v) :=
  fun _ _ _ H _ I h => ld_glob I hg hm ⟨v, H, I, r, h⟩ hd
variable {a b : Expr} {ta tb : TE} {pos : Pos}
def tB (t : TE) : TT := fun σ H Q => t σ H fun x H1 => ∃ c, x = .bl c ∧ Q c H1
theorem pt_val {e : Expr} {t : TE} (h : PE X e t) (he : ∀ whole, isTrue e X.env whole = (do let v ← whole; standAt e.pos; holding [v] (truthy v)) := by intro _; rfl) : PT X e (tB t) := by
  intro pins s σ H Q I hw
  refine isTrue_plain (thn (h pins s σ H _ I hw) fun v s1 ⟨x, H1, I1, r1, q1⟩ => ?_) (he _)
  obtain ⟨d, rfl, q⟩ := q1
  cases r1
  exact wpAny_truthy_bool ⟨H1, I1, q⟩
variable {tA tB' : TT} {rest : List Expr}
def tAnd (t u : TT) : TT := fun σ H Q => t σ H fun c H1 => if c = true then u σ H1 Q else Q false H1
def tOr (t u : TT) : TT := fun σ H Q => t σ H fun c H1 => if c = true then Q true H1 else u σ H1 Q
def tNot (t : TT) : TT := fun σ H Q => t σ H fun c H1 => Q (!c) H1
theorem pw_and1 (ha : PT X a tA) : PW X (.BoolOp .And [a] pos) tA := by
  intro wh pins s σ H Q I h
  refine isTrue_and (thn (ha pins s σ H Q I h) fun c s1 e => ?_)
  cases c with
  | true => exact isTrue_and_nil e
  | false => exact e
theorem pw_or1 (ha : PT X a tA) : PW X (.BoolOp .Or [a] pos) tA := by
  intro wh pins s σ H Q I h
  refine isTrue_or (thn (ha pins s σ H Q I h) fun c s1 e => ?_)
  cases c with
  | false => exact isTrue_or_nil e
  | true => exact e
theorem pw_and (ha : PT X a tA) (hb : PW X (.BoolOp .And (b :: rest) pos) tB') : PW X (.BoolOp .And (a :: b :: rest) pos) (tAnd tA tB') := by
  intro wh pins s σ H Q I h
  refine isTrue_and (thn (ha pins s σ H _ I h) fun c s1 ⟨H1, I1, q1⟩ => ?_)
  cases c with
  | true => exact hb wh pins s1 σ H1 Q I1 q1
  | false => exact ⟨H1, I1, q1⟩
theorem pw_or (ha : PT X a tA) (hb : PW X (.BoolOp .Or (b :: rest) pos) tB') : PW X (.BoolOp .Or (a :: b :: rest) pos) (tOr tA tB') := by
  intro wh pins s σ H Q I h
  refine isTrue_or (thn (ha pins s σ H _ I h) fun c s1 ⟨H1, I1, q1⟩ => ?_)
  cases c with
  | true => exact ⟨H1, I1, q1⟩
  | false => exact hb wh pins s1 σ H1 Q I1 q1
theorem pt_not (ha : PT X a tA) : PT X (.UnaryOp .Not a pos) (tNot tA) := by
  intro pins s σ H Q I h
  exact isTrue_not (ha pins s σ H (fun c H1 => Q (!c) H1) I h)
end
end L2
namespace L2
open PySem PySem.Spec PyProof.Rows
def SqL (K : PySem.W.Frag) (H : Hp) (a : Addr) (xs : List V) : Prop :=
  Rd H a (.lst xs) ∨
    ∃ (o : Obj) (its : Array Value) (n : Nat), K.lookup a = some o ∧ o.cls = .type "list" ∧ o.dict = none ∧ o.data = .seq its n ∧ its.size ≤ sizeLine ∧ Vals xs its.toList
def SqT (K : PySem.W.Frag) (H : Hp) (a : Addr) (xs : List V) : Prop :=
  Rd H a (.tup xs) ∨
    ∃ (o : Obj) (its : Array Value) (n : Nat), K.lookup a = some o ∧ o.cls = .type "tuple" ∧ o.data = .seq its n ∧ its.size ≤ sizeLine ∧ Vals xs its.toList
def absV : Value → Option V
  | .none => some .non
  | .bool b => some (.bl b)
  | .int i _ => some (.int i)
  | .str x _ => some (.str x)
  | .bytes b _ => some (.byt b)
  | .float b _ => some (.flt b)
  | .ref a => some (.ref a)
  | .type n => some (.ty n)
  | _ => none
theorem RelV.abs {x : V} {u : Value} (r : RelV x u) : absV u = some x := by
  cases x with
  | non => cases r; rfl
  | bl _ => cases r; rfl
  | int _ => obtain ⟨t, rfl⟩ := r; rfl
  | str _ => obtain ⟨t, rfl⟩ := r; rfl
  | byt _ => obtain ⟨t, rfl⟩ := r; rfl
  | flt _ => obtain ⟨t, rfl⟩ := r; rfl
  | ref _ => cases r; rfl
  | ty _ => cases r; rfl
theorem RelV.inj {x y : V} {u : Value} (r : RelV x u) (q : RelV y u) : x = y := Option.some.inj (r.abs.symm.trans q.abs)
theorem Vals.inj : ∀ {xs ys : List V} {us : List Value}, Vals xs us → Vals ys us → xs = ys
  | _, _, _, .nil, .nil => rfl
  | _, _, _, .cons r t, .cons r' t' => by rw [r.inj r', Vals.inj t t']
section
variable {X : Cx} {pins : List (Addr × Obj)} {σ : St} {H : Hp} {s : Shared} {a : Addr} {xs ys : List V}
theorem SqL.of {K : PySem.W.Frag} (h : H a = some (.lst xs)) : SqL K H a xs := .inl (.inl h)
theorem SqT.of {K : PySem.W.Frag} (h : H a = some (.tup xs)) : SqT K H a xs := .inl (.inl h)
theorem Inv.list (I : Inv X pins σ H s) (h : SqL X.K H a xs) : ∃ its : List Value, Vals xs its ∧ PlainL s.heap a its.toArray ∧ xs.length ≤ sizeLine := by
  rcases h with h | ⟨o, its, n, hk, hc, hd, hs, hz, r⟩
  · obtain ⟨z, its, n, r, e⟩ := h.ok I.hok
    exact ⟨its, r, ⟨_, n, e, rfl, rfl, rfl⟩, z⟩
  · refine ⟨its.toList, r, ⟨o, n, I.kIn a o hk, hc, hd, by simpa using hs⟩, ?_⟩
    have e := r.length
    simp only [Array.length_toList] at e
    omega
theorem Inv.tuple (I : Inv X pins σ H s) (h : SqT X.K H a xs) : ∃ its : List Value, Vals xs its ∧ IsTup s.heap a its.toArray ∧ xs.length ≤ sizeLine := by
  rcases h with h | ⟨o, its, n, hk, hc, hs, hz, r⟩
  · obtain ⟨z, its, r, p⟩ := h.ok I.hok
    exact ⟨its, r, p, z⟩
  · refine ⟨its.toList, r, ⟨o, I.kIn a o hk, hc, n, by simpa using hs⟩, ?_⟩
    have e := r.length
    simp only [Array.length_toList] at e
    omega
theorem Inv.list_inj (I : Inv X pins σ H s) (h : SqL X.K H a xs) (h' : SqL X.K H a ys) : xs = ys := by
  obtain ⟨its, r, ⟨o, n, e, _, _, d⟩, _⟩ := I.list h
  obtain ⟨its', r', ⟨o', n', e', _, _, d'⟩, _⟩ := I.list h'
  rw [e] at e'; cases e'
  rw [d] at d'
  injection d' with d1 _
  have : its = its' := by simpa using congrArg Array.toList d1
  subst this
  exact r.inj r'
theorem Inv.tuple_inj (I : Inv X pins σ H s) (h : SqT X.K H a xs) (h' : SqT X.K H a ys) : xs = ys := by
  obtain ⟨its, r, ⟨o, e, _, n, d⟩, _⟩ := I.tuple h
  obtain ⟨its', r', ⟨o', e', _, n', d'⟩, _⟩ := I.tuple h'
  rw [e] at e'; cases e'
  rw [d] at d'
  injection d' with d1 _
  have : its = its' := by simpa using congrArg Array.toList d1
  subst this
  exact r.inj r'
end
abbrev Cx.wish (X : Cx) (E : Value → Shared → Prop) : Cx := { X with xe := E }
abbrev Cx.nox (X : Cx) : Cx := X.wish fun _ _ => False
theorem Cx.Ok.wish {X : Cx} (ok : X.Ok) (E : Value → Shared → Prop) : (X.wish E).Ok :=
  ⟨ok.mod, ok.kind, ok.glob, ok.blt, ok.above, ok.inj, ok.has, ok.cab, ok.hd, ok.frames, ok.stk, ok.exf, ok.bs, ok.bsz, ok.noex, ok.exfs, ok.funs, ok.frf⟩
theorem Cx.Ok.unwish {X : Cx} {E : Value → Shared → Prop} (ok : (X.wish E).Ok) : X.Ok :=
  ⟨ok.mod, ok.kind, ok.glob, ok.blt, ok.above, ok.inj, ok.has, ok.cab, ok.hd, ok.frames, ok.stk, ok.exf, ok.bs, ok.bsz, ok.noex, ok.exfs, ok.funs, ok.frf⟩
section
variable {X : Cx} {pins : List (Addr × Obj)} {σ : St} {H : Hp} {s : Shared} {E : Value → Shared → Prop}
theorem Inv.wish (I : Inv X pins σ H s) (E : Value → Shared → Prop) : Inv (X.wish E) pins σ H s := ⟨I.ok.wish E, I.os, I.bare, I.base, I.loc, I.cell, I.free, I.freeC, I.pin, I.hok, I.len⟩
theorem Inv.unwish (I : Inv (X.wish E) pins σ H s) : Inv X pins σ H s := ⟨I.ok.unwish, I.os, I.bare, I.base, I.loc, I.cell, I.free, I.freeC, I.pin, I.hok, I.len⟩
theorem SP.unwish {D : Ends} {f : Flow} {s' : Shared} (h : SP (X.wish E) pins D f s') : SP X pins D f s' := by
  cases f with
  | next => obtain ⟨σ', H', I, q⟩ := h; exact ⟨σ', H', I.unwish, q⟩
  | brk => obtain ⟨σ', H', I, q⟩ := h; exact ⟨σ', H', I.unwish, q⟩
  | cont => obtain ⟨σ', H', I, q⟩ := h; exact ⟨σ', H', I.unwish, q⟩
  | ret u => obtain ⟨v, σ', H', I, r, q⟩ := h; exact ⟨v, σ', H', I.unwish, r, q⟩
theorem PE.nox {e : Expr} {t : TE} (h : PE X.nox e t) : PE X e t := fun pins s σ H Q I hw =>
  wpAny_mono (h pins s σ H Q (I.wish _) hw) (fun _ _ ⟨v, H', I', r, q⟩ => ⟨v, H', I'.unwish, r, q⟩) fun _ _ z => False.elim z
theorem PT.nox {e : Expr} {t : TT} (h : PT X.nox e t) : PT X e t := fun pins s σ H Q I hw =>
  wpAny_mono (h pins s σ H Q (I.wish _) hw) (fun _ _ ⟨H', I', q⟩ => ⟨H', I'.unwish, q⟩) fun _ _ z => False.elim z
theorem PSs.nox {st : List Stmt} {t : TS} (h : PSs X.nox st t) : PSs X st t := fun pins s σ H D I hw =>
  wpAny_mono (h pins s σ H D (I.wish _) hw) (fun _ _ q => q.unwish) fun _ _ z => False.elim z
end
section
variable {X : Cx} {st : Stmt} {rest : List Stmt} {t u : TS} {e : Expr} {te : TE} {pos : Pos}
def tNext : TS := fun D σ H => D.nx σ H
def tSeq (t u : TS) : TS := fun D σ H => t { D with nx := u D } σ H
theorem pss_nil : PSs X [] tNext := fun _ _ σ H _ I h => wpAny_execs_nil ⟨σ, H, I, h⟩
theorem pss_cons (h1 : PS X st t) (h2 : PSs X rest u) : PSs X (st :: rest) (tSeq t u) := by
  intro pins s σ H D I h
  refine wpAny_execs_cons (thn (h1 pins s σ H { D with nx := u D } I h) fun f s1 q => ?_)
  cases f with
  | next =>
    obtain ⟨σ', H', I', q⟩ := q
    exact h2 pins s1 σ' H' D I' q
  | ret v => exact q
  | brk => exact q
  | cont => exact q
theorem pss_one (h1 : PS X st t) : PSs X [st] t := by
  intro pins s σ H D I h
  refine wpAny_execs_cons (thn (h1 pins s σ H D I h) fun f s1 q => ?_)
  cases f with
  | next => exact wpAny_execs_nil q
  | ret v => exact q
  | brk => exact q
  | cont => exact q
def tRet (te : TE) : TS := fun D σ H => te σ H D.rt
theorem ps_ret (he : PE X e te) : PS X (.Return (some e) pos) (tRet te) := by
  intro pins s σ H D I h
  exact wpAny_Return_some (thn (he pins s σ H _ I h) fun v s1 ⟨x, H1, I1, r1, q1⟩ => ⟨x, σ, H1, I1, r1, q1⟩)
def tIfS (c : TT) (t u : TS) : TS := fun D σ H => c σ H fun b H1 => if b = true then t D σ H1 else u D σ H1
theorem ps_if {c : Expr} {a b : List Stmt} {tc : TT} (hc : PT X c tc) (ha : PSs X a t) (hb : PSs X b u) : PS X (.If c a b pos) (tIfS tc t u) := by
  intro pins s σ H D I h
  refine wpAny_If (thn (hc pins s σ H _ I h) fun d s1 ⟨H1, I1, q1⟩ => ?_)
  cases d with
  | true => exact ha pins s1 σ H1 D I1 q1
  | false => exact hb pins s1 σ H1 D I1 q1
def tNever : TS := fun _ _ _ => False
theorem ps_never : PS X st tNever := fun _ _ _ _ _ _ h => h.elim
end
abbrev TG := V → St → Hp → (St → Hp → Prop) → Prop
abbrev TGs := List V → St → Hp → (St → Hp → Prop) → Prop
def PG (X : Cx) (target : Expr) (t : TG) : Prop :=
  ∀ (pins : List (Addr × Obj)) (s : Shared) (σ : St) (H : Hp) (v : V) (u : Value) (Q : St → Hp → Prop), Inv X pins σ H s → RelV v u → t v σ H Q →
    wpAny (model X.prog X.w) X.A (assign target X.env u) (fun _ s' => ∃ σ' H', Inv X pins σ' H' s' ∧ Q σ' H') X.xe s
def PGs (X : Cx) (ts : List Expr) (t : TGs) : Prop :=
  ∀ (pins : List (Addr × Obj)) (s : Shared) (σ : St) (H : Hp) (vs : List V) (us : List Value) (Q : St → Hp → Prop), Inv X pins σ H s → Vals vs us → t vs σ H Q →
    wpAny (model X.prog X.w) X.A (assignInOrder ((assignEach ts X.env).map (·.2)) us) (fun _ s' => ∃ σ' H', Inv X pins σ' H' s' ∧ Q σ' H') X.xe s
abbrev TSet := V → V → V → Hp → (Hp → Prop) → Prop
def PSet (X : Cx) (t : TSet) : Prop :=
  ∀ (pins : List (Addr × Obj)) (s : Shared) (σ : St) (H : Hp) (o i v : V) (ov iv u : Value) (Q : Hp → Prop), Inv X pins σ H s → RelV o ov → RelV i iv → RelV v u → t o i v H Q →
    wpAny (model X.prog X.w) X.A (setItem ov iv u) (fun _ s' => ∃ H', Inv X pins σ H' s' ∧ Q H') X.xe s
section
variable {X : Cx} {pos : Pos}
def gName (i : Nat) : TG := fun v σ H Q => Q (σ.set i (some v)) H
theorem pg_name {i : Nat} {x : Str} (hN : X.N.Nodup) (hi : X.N[i]? = some x) (hx : Loc X.env.scope x) (hf : X.fn x = true ∨ X.env.scope.names.lookup x = some .local := by first | exact .inl rfl | exact .inr rfl | assumption) : PG X (.Name x pos) (gName i) := by
  intro pins s σ H v u Q I r h
  exact wpAny_assign_Name (store_ok I hN hi hx r (fun s' I' => ⟨_, H, I', h⟩) hf)
def gNil : TGs := fun vs σ H Q => vs = [] ∧ Q σ H
def gCons (t : TG) (u : TGs) : TGs := fun vs σ H Q => ∃ v r, vs = v :: r ∧ t v σ H fun σ' H' => u r σ' H' Q
theorem pgs_nil : PGs X [] gNil := by
  intro pins s σ H vs us Q I r h
  obtain ⟨e, h⟩ := h
  subst e
  cases r
  exact assignInOrder_nil ⟨σ, H, I, h⟩
theorem pgs_cons {e : Expr} {es : List Expr} {t : TG} {u : TGs} (h1 : PG X e t) (h2 : PGs X es u)
    (hs : (assignEach (e :: es) X.env).map (·.2) = assign e X.env :: (assignEach es X.env).map (·.2) := by rfl) : PGs X (e :: es) (gCons t u) := by
  intro pins s σ H vs us Q I r h
  obtain ⟨v, vr, e1, h⟩ := h
  subst e1
  cases r with
  | cons r rr =>
    rw [hs]
    refine assignInOrder_cons (thn (h1 pins s σ H _ _ _ I r h) fun _ s1 ⟨σ1, H1, I1, q1⟩ => ?_)
    exact h2 pins s1 σ1 H1 _ _ Q I1 rr q1
def gTup (K : PySem.W.Frag) (n : Nat) (t : TGs) : TG := fun v σ H Q => ∃ a xs, v = .ref a ∧ SqT K H a xs ∧ xs.length = n ∧ t xs σ H Q
theorem pg_tup {es : List Expr} {k : Nat} {t : TGs} {n : Nat} (hc : X.calm = true) (h : PGs X es t)
    (hn : (assignEach es X.env).length = n := by rfl) (hst : (assignEach es X.env).findIdx? (·.1) = none := by rfl) : PG X (.Tuple es k pos) (gTup X.K n t) := by
  intro pins s σ H v u Q I r hw
  obtain ⟨a, xs, e1, hq, hl, hw⟩ := hw
  subst e1
  cases r
  obtain ⟨its, rv, ht, hz⟩ := I.tuple hq
  refine assign_Tuple_tuple (I.ok.hd hc) ht (by simp [hn, ← hl, rv.length]) hst fun h' hx => ?_
  have I1 : Inv X pins σ H { s with heap := h' } := I.kept (t' := s.toks) fun b o e => hx b o (Nat.ne_of_lt (Heap.lt_size e)) e
  exact h pins _ σ H xs _ Q I1 (by simpa using rv) hw
def gSub (to ti : TE) (t : TSet) : TG := fun v σ H Q => to σ H fun o H1 => ti σ H1 fun i H2 => t o i v H2 fun H3 => Q σ H3
theorem pg_sub {o i : Expr} {to ti : TE} {t : TSet} (ho : PE X o to) (hi : PE X i ti) (hs : PSet X t)
    (ha : ∀ v, assign (.Subscript o i pos) X.env v = (do
      let ov ← holding [v] (eval o X.env)
      let iv ← holding [v, ov] (eval i X.env)
      standAt pos
      holding [v, ov, iv] (setItem ov iv v)
      release [v, ov, iv] []) := by intro _; rfl) : PG X (.Subscript o i pos) (gSub to ti t) := by
  intro pins s σ H v u Q I r h
  rw [ha]
  refine wpAny_bind (wpAny_holding (thn (ho pins s σ H _ I h) fun ov s1 ⟨x, H1, I1, r1, q1⟩ => ?_))
  refine wpAny_bind (wpAny_holding (thn (hi pins s1 σ H1 _ I1 q1) fun iv s2 ⟨y, H2, I2, r2, q2⟩ => ?_))
  refine wpAny_bind (wpAny_standAt (wpAny_bind (wpAny_holding (thn (hs pins s2 σ H2 x y v ov iv u _ I2 r1 r2 r q2) fun _ s3 ⟨H3, I3, q3⟩ => ?_))))
  exact wpAny_release ⟨σ, H3, I3, q3⟩
def tAsg (te : TE) (g : TG) : TS := fun D σ H => te σ H fun x H1 => g x σ H1 D.nx
theorem ps_asg {tg e : Expr} {te : TE} {g : TG} (he : PE X e te) (hg : PG X tg g) (hs : swapsWithSole [tg] e pos.line X.env = pure false := by rfl) (hw : swappedStores [tg] e X.env = pure none := by rfl)
    (h1 : (assignEach [tg] X.env).map (·.2) = [assign tg X.env] := by rfl) : PS X (.Assign [tg] e pos) (tAsg te g) := by
  intro pins s σ H D I h
  refine wpAny_Assign_stores (thn (he pins s σ H _ I h) fun v s1 ⟨x, H1, I1, r1, q1⟩ => ?_) hs hw
  rw [h1]
  exact thn (hg pins s1 σ H1 x v _ I1 r1 q1) fun _ s2 q => q
theorem ps_set {i : Nat} {x : Str} {e : Expr} {te : TE} {pos' : Pos} (hN : X.N.Nodup) (hi : X.N[i]? = some x) (hx : Loc X.env.scope x) (he : PE X e te) (hs : swapsWith e (some (.Name x pos')) pos.line X.env = pure false := by rfl) (hf : X.fn x = true ∨ X.env.scope.names.lookup x = some .local := by first | exact .inl rfl | exact .inr rfl | assumption) :
    PS X (.Assign [.Name x pos'] e pos) (tAsg te (gName i)) := by
  intro pins s σ H D I h
  refine wpAny_Assign_Name (thn (he pins s σ H _ I h) fun v s1 ⟨y, H1, I1, r1, q1⟩ => ?_) hs
  exact store_ok I1 hN hi hx r1 (fun s2 I2 => ⟨_, H1, I2, q1⟩) hf
end
section
variable {X : Cx} {pos : Pos}
def tWhile (c : TT) (tb : TS) : TS := fun D σ H => ∃ W : Nat → St → Hp → Prop, (∃ m, W m σ H) ∧ ∀ m σ H, W m σ H →
  c σ H fun b H1 => if b = true then ∃ N : St → Hp → Prop, (∀ σ' H', N σ' H' → ∃ m', m' < m ∧ W m' σ' H') ∧ tb { D with nx := N, ct := N, bk := D.nx } σ H1 else D.nx σ H1
theorem ps_while {c : Expr} {body : List Stmt} {tc : TT} {tb : TS} (hp : PassesOwn (model X.prog X.w) X.A X.env X.xe) (hc : PT X c tc) (hb : PSs X body tb) : PS X (.While c body [] pos) (tWhile tc tb) := by
  intro pins s σ H D I h
  obtain ⟨W, ⟨m0, w0⟩, turn⟩ := h
  refine wpAny_While (codeAny_whileLoop (fun n s' => ∃ σ' H', Inv X pins σ' H' s' ∧ W n σ' H') ?_ m0 ⟨σ, H, I, w0⟩)
  rintro n s1 ⟨σ1, H1, I1, w1⟩
  refine wpAny_passesOwn hp (thn (hc pins s1 σ1 H1 _ I1 (turn n σ1 H1 w1)) fun b s2 ⟨H2, I2, q2⟩ => ?_)
  cases b with
  | true =>
    obtain ⟨N, hN, q2⟩ := q2
    rw [if_pos rfl]
    refine wpAny_passesOwn hp (thn (hb pins s2 σ1 H2 _ I2 q2) fun f s3 q3 => ?_)
    cases f with
    | next =>
      obtain ⟨σ3, H3, I3, n3⟩ := q3
      obtain ⟨m', hm, w3⟩ := hN σ3 H3 n3
      exact ⟨m', hm, σ3, H3, I3, w3⟩
    | cont =>
      obtain ⟨σ3, H3, I3, n3⟩ := q3
      obtain ⟨m', hm, w3⟩ := hN σ3 H3 n3
      exact ⟨m', hm, σ3, H3, I3, w3⟩
    | brk => exact q3
    | ret v => exact q3
  | false =>
    rw [if_neg Bool.false_ne_true]
    exact wpAny_execs_nil ⟨σ1, H2, I2, q2⟩
end
structure It where
  go : Nat → Hp → Prop
  yld : Nat → Hp → V → Hp → Prop
  stop : Nat → Hp → Prop
def FpOk (X : Cx) (pins : List (Addr × Obj)) (H : Hp) (b : Addr) : Prop :=
  H b = none ∧ b ≠ X.env.locals ∧ b ∉ X.fs ∧ (b ∈ X.ex ∨ X.s_0.heap.objs.size ≤ b) ∧ (∀ x c, X.env.cells.lookup x = some c → c ≠ b) ∧ ∀ p ∈ X.pn ++ pins, p.1 ≠ b
theorem Inv.fpOk {X : Cx} {pins : List (Addr × Obj)} {σ : St} {H H' : Hp} {s : Shared} {b : Addr} (I : Inv X pins σ H s) (hb : s.heap.objs.size ≤ b) (hn : H' b = none) : FpOk X pins H' b := by
  refine ⟨hn, Nat.ne_of_gt (Nat.lt_of_lt_of_le I.lt hb), I.nofs hb, .inr (Nat.le_trans I.sz hb), fun x c e z => ?_, fun p hp z => ?_⟩
  · obtain ⟨v, q⟩ := I.cell x c e
    exact absurd (Nat.lt_of_lt_of_le q.lt (by rw [z]; exact hb)) (Nat.lt_irrefl _)
  · exact absurd (Nat.lt_of_lt_of_le (Heap.lt_size (I.pin p hp).1) (by rw [z]; exact hb)) (Nat.lt_irrefl _)
structure Turn (P : Program) (w : World) (K : PySem.W.Frag) (tg : Expr) (J : It) (fp : List Addr) (it : Addr) (tn : Nat → Heap → Prop) : Prop where
  mem : it ∈ fp
  obj : ∀ i h, tn i h → ∀ b ∈ fp, ∃ o, h.get? b = some o ∧ ∀ v, o.data ≠ .cell v
  keep : ∀ i h h', tn i h → (∀ b ∈ fp, ∀ o, h.get? b = some o → h'.get? b = some o) → tn i h'
  item : ∀ (X : Cx), X.prog = P → X.w = w → X.K = K → X.calm = true → ∀ (i : Nat) (pins : List (Addr × Obj)) (s : Shared) (σ : St) (H : Hp) (E : Value → Shared → Prop), Inv X pins σ H s → (∀ b ∈ fp, FpOk X pins H b) → tn i s.heap → J.go i H →
    wpAny (model P w) X.A (pyNext (.ref it)) (fun r s1 => ∃ u, r = some u ∧
      wpAny (model P w) X.A (letOwnedTupleGo tg (.ref it) u) (fun _ s2 => ∃ x H', Inv X pins σ H' s2 ∧ RelV x u ∧ J.yld i H x H' ∧ tn (i + 1) s2.heap ∧ ∀ b ∈ fp, H' b = none) E s1) E s
  done : ∀ (X : Cx), X.prog = P → X.w = w → X.K = K → X.calm = true → ∀ (i : Nat) (pins : List (Addr × Obj)) (s : Shared) (σ : St) (H : Hp) (E : Value → Shared → Prop), Inv X pins σ H s → (∀ b ∈ fp, FpOk X pins H b) → tn i s.heap → J.stop i H →
    wpAny (model P w) X.A (pyNext (.ref it)) (fun r s1 => r = none ∧ Inv X pins σ H s1) E s
  self : ∀ (A : Around) (i : Nat) (s : Shared) (Q : Value → Shared → Prop) (E : Value → Shared → Prop), tn i s.heap → Q (.ref it) s → wpAny (model P w) A (pyIter (.ref it)) Q E s
abbrev TI := St → Hp → (It → Hp → Prop) → Prop
def PIE (X : Cx) (pins : List (Addr × Obj)) (σ : St) (tg : Expr) (R : It → Hp → Prop) (itv : Value) (s2 : Shared) : Prop :=
  ∃ (it : Addr) (fp : List Addr) (tn : Nat → Heap → Prop) (J : It) (H' : Hp), itv = .ref it ∧ Inv X pins σ H' s2 ∧ Turn X.prog X.w X.K tg J fp it tn ∧ tn 0 s2.heap ∧ (∀ b ∈ fp, FpOk X pins H' b) ∧ R J H'
def PI (X : Cx) (tg iter : Expr) (wi : TI) : Prop :=
  ∀ (pins : List (Addr × Obj)) (s : Shared) (σ : St) (H : Hp) (R : It → Hp → Prop), Inv X pins σ H s → wi σ H R →
    wpAny (model X.prog X.w) X.A (eval iter X.env) (fun v s1 => wpAny (model X.prog X.w) X.A (pyIter v) (PIE X pins σ tg R) X.xe s1) X.xe s
theorem go_of {M : Model} {A : Around} {E : Value → Shared → Prop} {s : Shared} {tg : Expr} {it : Addr} {u : Value} {o : Obj} {n : String} {vs : Array Value} {Q : Unit → Shared → Prop} (ho : s.heap.get? it = some o) (hc : o.cls = .type n) (hd : o.data = .fields vs)
    (hn : ["enumerate", "zip", "dict_itemiterator", "dict_reverseitemiterator", "odict_iterator", "itertools.zip_longest", "itertools.pairwise"].contains n = false) (hQ : Q () s) : wpAny M A (letOwnedTupleGo tg (.ref it) u) Q E s := by
  unfold letOwnedTupleGo
  cases tg <;> first
    | exact wpAny_pure hQ
    | (cases u <;> first
        | exact wpAny_pure hQ
        | (refine wpAny_bind (wpAny_load ho ?_)
           rw [hc, hd]
           show wpAny M A (if (["enumerate", "zip", "dict_itemiterator", "dict_reverseitemiterator", "odict_iterator", "itertools.zip_longest", "itertools.pairwise"].contains n && vs[0]? == some (rawInt _)) = true then _ else _) Q E s
           rw [if_neg (by intro h; rw [hn, Bool.false_and] at h; cases h)]
           exact wpAny_pure hQ))
def Itl (K : PySem.W.Frag) (a : Addr) : It :=
  ⟨fun i H => ∃ xs x, SqL K H a xs ∧ xs[i]? = some x, fun i H x H' => H' = H ∧ ∀ xs, SqL K H a xs → xs[i]? = some x, fun i H => ∃ xs, SqL K H a xs ∧ xs.length ≤ i⟩
def Itr (lo : Int) (n : Nat) : It := ⟨fun i _ => i < n, fun i H x H' => H' = H ∧ x = .int (lo + i), fun i _ => n ≤ i⟩
theorem turn_list {P : Program} {w : World} {K : PySem.W.Frag} {tg : Expr} (a it : Addr) : Turn P w K tg (Itl K a) [it] it (fun i h => h.IsListIter it a i) where
  mem := by simp
  obj := fun i h st b hb => by
    have e : b = it := by simpa using hb
    subst e
    obtain ⟨o, e, c, d⟩ := st
    exact ⟨o, e, fun v z => by rw [d] at z; cases z⟩
  keep := fun i h h' st k => st.at fun o e => k it (by simp) o e
  item := by
    intro X hP hw hK hc i pins s σ H E I hf st hg
    subst hP hw hK
    obtain ⟨xs, x, hq, hx⟩ := hg
    obtain ⟨its, rv, p, hz⟩ := I.list hq
    obtain ⟨u, hu, ru⟩ := rv.get hx
    obtain ⟨f0, f1, f2, f3, f4, f5⟩ := hf it (by simp)
    refine wpAny_pyNext_list_item st p.isList (x := u) (by simpa using hu) fun h' st' sb => ?_
    have I1 : Inv X pins σ H { s with heap := h' } := I.turned (t' := s.toks) (fun b o hb e => (sb.2 b hb).trans e) f0 f1 f3 f4 f5
    obtain ⟨o, e, c, d⟩ := id st'
    exact ⟨u, rfl, go_of (s := { s with heap := h' }) e c d (by decide) ⟨x, H, I1, ru, ⟨rfl, fun ys hy => by rw [I.list_inj hy hq]; exact hx⟩, st', fun b hb => (hf b hb).1⟩⟩
  done := by
    intro X hP hw hK hc i pins s σ H E I hf st hg
    subst hP hw hK
    obtain ⟨xs, hq, hx⟩ := hg
    obtain ⟨its, rv, p, hz⟩ := I.list hq
    obtain ⟨f0, f1, f2, f3, f4, f5⟩ := hf it (by simp)
    have hl := rv.length
    exact wpAny_pyNext_list_end (I.ok.hd hc) st p.isList (by simp; omega) fun h' eb => ⟨rfl, I.turned (t' := s.toks) (fun b o hb e => eb b o hb e) f0 f1 f3 f4 f5⟩
  self := fun _ _ _ _ _ st h => wpAny_pyIter_listiter st h
theorem turn_range {P : Program} {w : World} {K : PySem.W.Frag} {tg : Expr} (it : Addr) (lo : Int) (n : Nat) : Turn P w K tg (Itr lo n) [it] it (fun i h => IsRangeIter h it (lo + (i : Nat) * 1) ((n : Int) - (i : Nat)) 1) where
  mem := by simp
  obj := fun i h st b hb => by
    have e : b = it := by simpa using hb
    subst e
    exact ⟨_, st, fun v z => by
      have z' : Data.fields _ = Data.cell v := z
      cases z'⟩
  keep := fun i h h' st k => k it (by simp) _ st
  item := by
    intro X hP hw hK hc i pins s σ H E I hf st hg
    subst hP hw hK
    obtain ⟨f0, f1, f2, f3, f4, f5⟩ := hf it (by simp)
    have W := Walks.range (prog := X.prog) (w := X.w) (I.ok.hd hc) it lo 1 n
    refine W.item i s _ _ hg st fun v h' tk hv st' kk => ?_
    obtain ⟨t, rfl⟩ := hv
    have I1 : Inv X pins σ H { s with heap := h', toks := tk } := I.turned (fun b o hb e => kk b o (by simpa using hb) e) f0 f1 f3 f4 f5
    refine ⟨_, rfl, go_of (s := { s with heap := h', toks := tk }) (n := "range_iterator") st' rfl rfl (by decide) ⟨.int (lo + i), H, I1, ⟨t, ?_⟩, ⟨rfl, rfl⟩, st', fun b hb => (hf b hb).1⟩⟩
    rw [Int.mul_one]
  done := by
    intro X hP hw hK hc i pins s σ H E I hf st hg
    subst hP hw hK
    obtain ⟨f0, f1, f2, f3, f4, f5⟩ := hf it (by simp)
    exact wpAny_pyNext_range_end (I.ok.hd hc) st (by have : n ≤ i := hg; omega) fun h' eb => ⟨rfl, I.turned (t' := s.toks) (fun b o hb e => eb b o hb e) f0 f1 f3 f4 f5⟩
  self := fun _ _ _ _ _ st h => wpAny_pyIter_rangeiter st h
end L2
namespace L2
open PySem PySem.Spec PyProof.Rows
section
variable {X : Cx} {tg : Expr}
def iList (K : PySem.W.Frag) (tl : TE) : TI := fun σ H R => tl σ H fun x H1 => ∃ a, x = .ref a ∧ (∃ xs, SqL K H1 a xs) ∧ R (Itl K a) H1
theorem pi_list {l : Expr} {tl : TE} (hl : PE X l tl) : PI X tg l (iList X.K tl) := by
  intro pins s σ H R I h
  refine thn (hl pins s σ H _ I h) fun v s1 ⟨x, H1, I1, r1, q1⟩ => ?_
  obtain ⟨a, e, ⟨xs, hq⟩, q⟩ := q1
  subst e
  cases r1
  obtain ⟨its, rv, p, hz⟩ := I1.list hq
  refine wpAny_pyIter_list p.isList ?_
  refine ⟨s1.heap.objs.size, [s1.heap.objs.size], _, _, H1, rfl, I1.kept (t' := s1.toks) fun b o e => Heap.get?_push_of_some _ e, turn_list a _, ⟨_, Heap.get?_push_size _ rfl, rfl, rfl⟩, fun b hb => ?_, q⟩
  have e : b = s1.heap.objs.size := by simpa using hb
  subst e
  exact I1.fpOk (Nat.le_refl _) (I1.hok.fresh (Nat.le_refl _))
theorem range_it {pins : List (Addr × Obj)} {σ : St} {H : Hp} {s : Shared} {R : It → Hp → Prop} {E : Value → Shared → Prop} {lo hi : Int} {t u v : Tok} {tk : Nat} (I : Inv X pins σ H s) (h1 : -(2 ^ 62) ≤ lo) (h2 : lo < 2 ^ 62) (h3 : -(2 ^ 62) ≤ hi) (h4 : hi < 2 ^ 62)
    (q : R (Itr lo (hi - lo).toNat) H) : wpAny (model X.prog X.w) X.A (pyIter (.ref s.heap.objs.size)) (PIE X pins σ tg R) E { s with heap := s.heap.push { cls := .type "range", data := .fields #[.int lo t, .int hi u, .int 1 v] }, toks := tk } := by
  refine wpAny_pyIter_range (IsRange.new ..) (small_one h1 h2 h3 h4) ?_
  have I1 : Inv X pins σ H { s with heap := s.heap.push { cls := .type "range", data := .fields #[.int lo t, .int hi u, .int 1 v] }, toks := tk } := I.kept fun b o e => Heap.get?_push_of_some _ e
  refine ⟨(s.heap.push { cls := .type "range", data := .fields #[.int lo t, .int hi u, .int 1 v] }).objs.size, [(s.heap.push { cls := .type "range", data := .fields #[.int lo t, .int hi u, .int 1 v] }).objs.size], _, _, H, rfl,
    I1.kept (t' := tk) fun b o e => Heap.get?_push_of_some _ e, turn_range _ lo (hi - lo).toNat, ?_, fun b hb => ?_, q⟩
  · have e1 : lo + ((0 : Nat) : Int) * 1 = lo := by simp
    have e2 : (((hi - lo).toNat : Nat) : Int) - ((0 : Nat) : Int) = Builtin.Range.rangeSize lo hi 1 := by rw [rangeSize_one]; split <;> omega
    show IsRangeIter _ _ (lo + ((0 : Nat) : Int) * 1) ((((hi - lo).toNat : Nat) : Int) - ((0 : Nat) : Int)) 1
    rw [e1, e2]
    exact Heap.get?_push_size _ rfl
  · have e : b = (s.heap.push { cls := .type "range", data := .fields #[.int lo t, .int hi u, .int 1 v] }).objs.size := by simpa using hb
    subst e
    exact I1.fpOk (Nat.le_refl _) (I1.hok.fresh (Nat.le_refl _))
def iRng1 (ta : TA) : TI := fun σ H R => ta σ H fun vs H1 => ∃ j : Int, vs = [.int j] ∧ -(2 ^ 62) ≤ j ∧ j < 2 ^ 62 ∧ R (Itr 0 j.toNat) H1
theorem pi_range1 {a : Expr} {ta : TA} {p pos : Pos} (hg : Gl X "range") (hm : X.mg "range" = none) (ha : PA X [a] ta) (hs : starEach [a] X.env = [(false, eval a X.env)] := by rfl) : PI X tg (.Call (.Name "range" p) [a] [] pos) (iRng1 ta) := by
  intro pins s σ H R I h
  refine Call_ (ld_blt I hg hm boot_range (PyProof.Rows.callWith_type1 (thn (ha pos pins s σ H _ I h) fun us s1 ⟨vs, H1, I1, r1, q1⟩ => ?_) hs rfl))
  obtain ⟨j, e, q1, q2, q⟩ := q1
  subst e
  cases r1 with
  | cons r rr =>
    cases rr
    obtain ⟨t, rfl⟩ := r
    exact call_range_1 (range_it I1 (by omega) (by omega) q1 q2 (by simpa using q))
def tFor (wi : TI) (g : TG) (tb : TS) : TS := fun D σ H => wi σ H fun J H1 => ∃ W : Nat → Nat → St → Hp → Prop, (∃ m, W 0 m σ H1) ∧ ∀ i m σ H, W i m σ H →
  (J.stop i H ∧ D.nx σ H) ∨ (J.go i H ∧ ∃ N : St → Hp → Prop, (∀ σ' H', N σ' H' → ∃ m', m' < m ∧ W (i + 1) m' σ' H') ∧ ∀ x H', J.yld i H x H' → g x σ H' fun σ2 H2 => tb { D with nx := N, ct := N, bk := D.nx } σ2 H2)
def pinsAt (fp : List Addr) (h : Heap) : List (Addr × Obj) := fp.filterMap fun b => (h.get? b).map fun o => (b, o)
theorem mem_pinsAt {fp : List Addr} {h : Heap} {b : Addr} {o : Obj} (hb : b ∈ fp) (e : h.get? b = some o) : (b, o) ∈ pinsAt fp h := List.mem_filterMap.mpr ⟨b, hb, by rw [e]; rfl⟩
theorem of_pinsAt {fp : List Addr} {h : Heap} {p : Addr × Obj} (hp : p ∈ pinsAt fp h) : p.1 ∈ fp ∧ h.get? p.1 = some p.2 := by
  obtain ⟨b, hb, e⟩ := List.mem_filterMap.mp hp
  cases q : h.get? b with
  | none => rw [q] at e; cases e
  | some o =>
    rw [q] at e
    have e' : (b, o) = p := Option.some.inj e
    subst e'
    exact ⟨hb, q⟩
theorem Inv.pinned {pins : List (Addr × Obj)} {σ : St} {H : Hp} {s : Shared} {fp : List Addr} (I : Inv X pins σ H s) (hf : ∀ b ∈ fp, FpOk X pins H b) (ho : ∀ b ∈ fp, ∃ o, s.heap.get? b = some o ∧ ∀ v, o.data ≠ .cell v) : Inv X (pins ++ pinsAt fp s.heap) σ H s :=
  I.pins_of fun p hp => (List.mem_append.mp hp).elim (fun z => I.pin p (List.mem_append_right _ z)) fun z => by
    obtain ⟨hb, e⟩ := of_pinsAt z
    obtain ⟨f0, f1, f2, _⟩ := hf p.1 hb
    obtain ⟨o, e', d⟩ := ho p.1 hb
    rw [e] at e'; cases e'
    exact ⟨e, f0, f1, f2, d⟩
theorem Inv.unpinned {pins pl : List (Addr × Obj)} {σ : St} {H : Hp} {s : Shared} (I : Inv X (pins ++ pl) σ H s) : Inv X pins σ H s := I.pins_of fun p hp => I.pin p (List.mem_append_right _ (List.mem_append_left _ hp))
theorem ps_for {iter : Expr} {body : List Stmt} {wi : TI} {g : TG} {tb : TS} {pos : Pos} (hp : PassesOwn (model X.prog X.w) X.A X.env X.xe) (hc : X.calm = true) (hi : PI X tg iter wi) (hg : PG X tg g) (hb : PSs X body tb)
    (hs : ∀ x, foldedSetIterable iter X.env x = pure x := by intro _; rfl) : PS X (.For tg iter body [] pos) (tFor wi g tb) := by
  intro pins s σ H D I h
  refine wpAny_For (thn (hi pins s σ H _ I h) fun v s1 h1 => thn h1 fun itv s2 h2 => ?_) hs
  obtain ⟨it, fp, tn, J, H2, e, I2, T, st2, f2, W, ⟨m0, w0⟩, turn⟩ := h2
  subst e
  -- what stays true of the iterator's objects through the loop
  have stat : ∀ {H' : Hp}, (∀ b ∈ fp, H' b = none) → ∀ b ∈ fp, FpOk X pins H' b := fun hn b hb => ⟨hn b hb, (f2 b hb).2⟩
  refine codeAny_forLoop_any (fun n s' => ∃ i σ' H', Inv X pins σ' H' s' ∧ tn i s'.heap ∧ (∀ b ∈ fp, H' b = none) ∧ W i n σ' H') ?_ m0 ⟨0, σ, H2, I2, st2, fun b hb => (f2 b hb).1, w0⟩
  rintro n s3 ⟨i, σ3, H3, I3, st3, fr3, w3⟩
  rcases turn i n σ3 H3 w3 with ⟨stop, qn⟩ | ⟨go, N, hN, step⟩
  · refine wpAny_passesOwn hp (thn (T.done X rfl rfl rfl hc i pins s3 σ3 H3 X.xe I3 (stat fr3) st3 stop) fun r s4 ⟨hr, I4⟩ => ?_)
    subst hr
    exact wpAny_execs_nil ⟨σ3, H3, I4, qn⟩
  · refine wpAny_passesOwn hp (thn (T.item X rfl rfl rfl hc i pins s3 σ3 H3 X.xe I3 (stat fr3) st3 go) fun r s4 ⟨u, hr, h4⟩ => ?_)
    subst hr
    refine wpAny_passesOwn hp (thn h4 fun _ s5 ⟨x, H5, I5, r5, y5, st5, fr5⟩ => ?_)
    have I5' := I5.pinned (stat fr5) (T.obj _ _ st5)
    refine wpAny_passesOwn hp (thn (hg _ s5 σ3 H5 x u _ I5' r5 (step x H5 y5)) fun _ s6 ⟨σ6, H6, I6, q6⟩ => ?_)
    refine wpAny_passesOwn hp (thn (hb _ s6 σ6 H6 _ I6 q6) fun f s7 q7 => ?_)
    have again : ∀ {σ7 : St} {H7 : Hp}, Inv X (pins ++ pinsAt fp s5.heap) σ7 H7 s7 → N σ7 H7 → ∃ m, m < n ∧ ∃ i σ' H', Inv X pins σ' H' s7 ∧ tn i s7.heap ∧ (∀ b ∈ fp, H' b = none) ∧ W i m σ' H' := fun {σ7 H7} I7 n7 => by
      obtain ⟨m', hm, w7⟩ := hN σ7 H7 n7
      refine ⟨m', hm, i + 1, σ7, H7, I7.unpinned, T.keep _ _ _ st5 fun b hb o e => (I7.pin (b, o) (List.mem_append_right _ (List.mem_append_right _ (mem_pinsAt hb e)))).1, fun b hb => ?_, w7⟩
      obtain ⟨o, e, d⟩ := T.obj _ _ st5 b hb
      exact (I7.pin (b, o) (List.mem_append_right _ (List.mem_append_right _ (mem_pinsAt hb e)))).2.1
    cases f with
    | next => obtain ⟨σ7, H7, I7, n7⟩ := q7; exact again I7 n7
    | cont => obtain ⟨σ7, H7, I7, n7⟩ := q7; exact again I7 n7
    | brk => obtain ⟨σ7, H7, I7, q7⟩ := q7; exact ⟨σ7, H7, I7.unpinned, q7⟩
    | ret v => obtain ⟨x7, σ7, H7, I7, r7, q7⟩ := q7; exact ⟨x7, σ7, H7, I7.unpinned, r7, q7⟩
end
end L2
namespace L2
open PySem PySem.Spec PyProof.Rows
abbrev R2 := V → V → Hp → VK → Prop
def OpR (X : Cx) (f : Value → Value → Sem Value) (r : R2) : Prop :=
  ∀ (pins : List (Addr × Obj)) (s : Shared) (σ : St) (H : Hp) (x y : V) (v u : Value) (Q : VK), Inv X pins σ H s → RelV x v → RelV y u → r x y H Q →
    wpAny (model X.prog X.w) X.A (f v u) (EP X pins σ Q) X.xe s
def UnR (X : Cx) (f : Value → Sem Value) (r : V → Hp → VK → Prop) : Prop :=
  ∀ (pins : List (Addr × Obj)) (s : Shared) (σ : St) (H : Hp) (x : V) (v : Value) (Q : VK), Inv X pins σ H s → RelV x v → r x H Q →
    wpAny (model X.prog X.w) X.A (f v) (EP X pins σ Q) X.xe s
def CallR (X : Cx) (f : Value) (r : List V → Hp → VK → Prop) : Prop :=
  ∀ (pins : List (Addr × Obj)) (s : Shared) (σ : St) (H : Hp) (xs : List V) (us : List Value) (Q : VK), Inv X pins σ H s → Vals xs us → r xs H Q →
    wpAny (model X.prog X.w) X.A (call f us) (EP X pins σ Q) X.xe s
def tOp (r : R2) (ta tb : TE) : TE := fun σ H Q => ta σ H fun x H1 => tb σ H1 fun y H2 => r x y H2 Q
def tUn (r : V → Hp → VK → Prop) (ta : TE) : TE := fun σ H Q => ta σ H fun x H1 => r x H1 Q
def rI (C : Int → Int → Prop) (g : Int → Int → V) : R2 := fun x y H Q => ∃ i j, x = .int i ∧ y = .int j ∧ C i j ∧ Q (g i j) H
def rI0 (g : Int → Int → V) : R2 := fun x y H Q => ∃ i j, x = .int i ∧ y = .int j ∧ Q (g i j) H
def rU (g : Int → V) : V → Hp → VK → Prop := fun x H Q => ∃ i, x = .int i ∧ Q (g i) H
section
variable {X : Cx} {a b c : Expr} {ta tb tc : TE} {pos : Pos}
theorem binT (ha : PE X a ta) (hb : PE X b tb) {pins : List (Addr × Obj)} {s : Shared} {σ : St} {H : Hp} {R : V → V → Hp → Prop} (I : Inv X pins σ H s)
    (h : ta σ H fun x H1 => tb σ H1 fun y H2 => R x y H2) {Q : Value → Shared → Prop} {f : Value → Value → Sem Value}
    (hf : ∀ v u s2 x y H2, Inv X pins σ H2 s2 → RelV x v → RelV y u → R x y H2 → wpAny (model X.prog X.w) X.A (f v u) Q X.xe s2) :
    wpAny (model X.prog X.w) X.A (eval a X.env) (fun v s₁ => wpAny (model X.prog X.w) X.A (eval b X.env) (fun u s₂ => wpAny (model X.prog X.w) X.A (f v u) Q X.xe s₂) X.xe s₁) X.xe s := by
  refine thn (ha pins s σ H _ I h) fun v s1 ⟨x, H1, I1, r1, q1⟩ => ?_
  refine thn (hb pins s1 σ H1 _ I1 q1) fun u s2 ⟨y, H2, I2, r2, q2⟩ => ?_
  exact hf v u s2 x y H2 I2 r1 r2 q2
theorem pe_op {op : Operator} {r : R2} (ho : OpR X (binaryOp op) r) (ha : PE X a ta) (hb : PE X b tb) : PE X (.BinOp a op b pos) (tOp r ta tb) := by
  intro pins s σ H Q I h
  exact wpAny_BinOp (binT ha hb I h fun v u s2 x y H2 I2 rx ry q => ho pins s2 σ H2 x y v u Q I2 rx ry q)
theorem pe_un {op : UnaryOp} {r : V → Hp → VK → Prop} (ho : UnR X (unaryOp op) r) (ha : PE X a ta) : PE X (.UnaryOp op a pos) (tUn r ta) := by
  intro pins s σ H Q I h
  exact UnaryOp_ (thn (ha pins s σ H _ I h) fun v s1 ⟨x, H1, I1, r1, q1⟩ => ho pins s1 σ H1 x v Q I1 r1 q1)
theorem opI {f : Value → Value → Sem Value} {C : Int → Int → Prop} {g : Int → Int → Int}
    (rule : ∀ (i j : Int) (t u : Tok) (s : Shared) (Q : Value → Shared → Prop) (E : Value → Shared → Prop), C i j → Q (.int (g i j) s.toks) { s with toks := s.toks + 1 } → wpAny (model X.prog X.w) X.A (f (.int i t) (.int j u)) Q E s) :
    OpR X f (rI C fun i j => .int (g i j)) := by
  intro pins s σ H x y v u Q I rx ry h
  obtain ⟨i, j, rfl, rfl, hc, q⟩ := h
  obtain ⟨t, rfl⟩ := rx
  obtain ⟨t', rfl⟩ := ry
  exact rule i j t t' s _ _ hc ⟨.int (g i j), H, I.tok _, ⟨_, rfl⟩, q⟩
theorem opI0 {f : Value → Value → Sem Value} {g : Int → Int → Int}
    (rule : ∀ (i j : Int) (t u : Tok) (s : Shared) (Q : Value → Shared → Prop) (E : Value → Shared → Prop), Q (.int (g i j) s.toks) { s with toks := s.toks + 1 } → wpAny (model X.prog X.w) X.A (f (.int i t) (.int j u)) Q E s) :
    OpR X f (rI0 fun i j => .int (g i j)) := by
  intro pins s σ H x y v u Q I rx ry h
  obtain ⟨i, j, rfl, rfl, q⟩ := h
  obtain ⟨t, rfl⟩ := rx
  obtain ⟨t', rfl⟩ := ry
  exact rule i j t t' s _ _ ⟨.int (g i j), H, I.tok _, ⟨_, rfl⟩, q⟩
theorem opB0 {f : Value → Value → Sem Value} {g : Int → Int → Bool}
    (rule : ∀ (i j : Int) (t u : Tok) (s : Shared) (Q : Value → Shared → Prop) (E : Value → Shared → Prop), Q (.bool (g i j)) s → wpAny (model X.prog X.w) X.A (f (.int i t) (.int j u)) Q E s) :
    OpR X f (rI0 fun i j => .bl (g i j)) := by
  intro pins s σ H x y v u Q I rx ry h
  obtain ⟨i, j, rfl, rfl, q⟩ := h
  obtain ⟨t, rfl⟩ := rx
  obtain ⟨t', rfl⟩ := ry
  exact rule i j t t' s _ _ ⟨.bl (g i j), H, I, rfl, q⟩
def CPow (i j : Int) : Prop := 0 ≤ j ∧ j ≤ 1000000 ∧ i.natAbs < 2 ^ 64
def CMul (i j : Int) : Prop := (-(2 ^ 64) < i ∧ i < 2 ^ 64) ∨ (-(2 ^ 64) < j ∧ j < 2 ^ 64)
theorem CMul.ok {i j : Int} (h : CMul i j) : IntMulOk i j := by
  rcases h with ⟨h1, h2⟩ | ⟨h1, h2⟩
  · exact .of_left (intBits_le_64 h1 h2)
  · exact .of_right (intBits_le_64 h1 h2)
theorem op_add : OpR X (binaryOp .Add) (rI0 fun i j => .int (i + j)) := opI0 fun _ _ _ _ _ _ _ q => add_int q
theorem op_sub : OpR X (binaryOp .Sub) (rI0 fun i j => .int (i - j)) := opI0 fun _ _ _ _ _ _ _ q => sub_int q
theorem op_mul : OpR X (binaryOp .Mult) (rI CMul fun i j => .int (i * j)) := opI fun _ _ _ _ _ _ _ hc q => mul_int q hc.ok
theorem op_mod : OpR X (binaryOp .Mod) (rI (fun _ j => 0 < j) fun i j => .int (i % j)) := opI fun i j _ _ _ _ _ hc q => by
  have h1 : (0 : Int) < j := hc
  exact mod_int' (by omega) (by rw [Int.fmod_eq_emod_of_nonneg i (by omega)]; exact q)
theorem op_pow : OpR X (binaryOp .Pow) (rI CPow fun i j => .int (i ^ j.toNat)) := opI fun _ _ _ _ _ _ _ hc q => pow_int_small hc.1 hc.2.1 hc.2.2 q
theorem op_shl : OpR X (binaryOp .LShift) (rI CPow fun i j => .int (i * 2 ^ j.toNat)) := opI fun _ _ _ _ _ _ _ hc q => lshift_int_small hc.1 hc.2.1 hc.2.2 q
theorem unI {f : Value → Sem Value} {g : Int → Int}
    (rule : ∀ (i : Int) (t : Tok) (s : Shared) (Q : Value → Shared → Prop) (E : Value → Shared → Prop), Q (.int (g i) s.toks) { s with toks := s.toks + 1 } → wpAny (model X.prog X.w) X.A (f (.int i t)) Q E s) :
    UnR X f (rU fun i => .int (g i)) := by
  intro pins s σ H x v Q I rx h
  obtain ⟨i, rfl, q⟩ := h
  obtain ⟨t, rfl⟩ := rx
  exact rule i t s _ _ ⟨.int (g i), H, I.tok _, ⟨_, rfl⟩, q⟩
theorem un_neg : UnR X (unaryOp .USub) (rU fun i => .int (-i)) := unI fun _ _ _ _ _ q => neg_int q
end
section
variable {X : Cx} {a b c : Expr} {ta tb tc : TE} {pos : Pos}
theorem op_lt : OpR X (compareOp .Lt) (rI0 fun i j => .bl (decide (i < j))) := opB0 fun _ _ _ _ _ _ _ q => lt_int q
theorem op_gt : OpR X (compareOp .Gt) (rI0 fun i j => .bl (decide (j < i))) := opB0 fun _ _ _ _ _ _ _ q => gt_int q
theorem OpR.or {f : Value → Value → Sem Value} {r r' : R2} (h : OpR X f r) (h' : OpR X f r') : OpR X f (fun x y H Q => r x y H Q ∨ r' x y H Q) := by
  intro pins s σ H x y v u Q I rx ry q
  rcases q with q | q
  · exact h pins s σ H x y v u Q I rx ry q
  · exact h' pins s σ H x y v u Q I rx ry q
theorem nomark (b : Expr) {op : CmpOp} (h : op ≠ .In := by decide) (h2 : op ≠ .NotIn := by decide) : behindInMarks op b = false := by
  have e1 : (op == CmpOp.In) = false := by cases op <;> first | rfl | exact absurd rfl h
  have e2 : (op == CmpOp.NotIn) = false := by cases op <;> first | rfl | exact absurd rfl h2
  cases b <;> simp [behindInMarks, e1, e2]
theorem pe_cmpR {op : CmpOp} {r : R2} (ho : OpR X (compareOp op) r) (ha : PE X a ta) (hb : PE X b tb) (hm : behindInMarks op b = false) : PE X (.Compare a [op] [b] pos) (tOp r ta tb) := by
  intro pins s σ H Q I h
  exact wpAny_Compare1 (binT ha hb I h fun v u s2 x y H2 I2 rx ry q => ho pins s2 σ H2 x y v u Q I2 rx ry q) hm
def tTest (t : TE) : TT := fun σ H Q => t σ H fun x H' => ∃ k, x = .bl k ∧ Q k H'
theorem pt_cmpR {op : CmpOp} {r : R2} (ho : OpR X (compareOp op) r) (ha : PE X a ta) (hb : PE X b tb) (hm : behindInMarks op b = false) : PT X (.Compare a [op] [b] pos) (tTest (tOp r ta tb)) := by
  intro pins s σ H Q I h
  refine wpAny_isTrue_Compare1 (thn (ha pins s σ H _ I h) fun v s1 ⟨x, H1, I1, r1, q1⟩ => thn (hb pins s1 σ H1 _ I1 q1) fun u s2 ⟨y, H2, I2, r2, q2⟩ =>
    thn (ho pins s2 σ H2 x y v u _ I2 r1 r2 q2) fun c s3 ⟨z, H3, I3, r3, k, e, q3⟩ => ?_) hm
  subst e
  cases r3
  exact wpAny_truthy_bool ⟨H3, I3, q3⟩
theorem line63 : (sizeLine : Nat) < 2 ^ 63 := by rw [sizeLine_eq]; decide
theorem op_add_str : OpR X (binaryOp .Add) (fun x y H Q => ∃ i j, x = .str i ∧ y = .str j ∧ i.length + j.length ≤ sizeLine ∧ Q (.str (i ++ j)) H) := by
  intro pins s σ H x y v u Q I rx ry h
  obtain ⟨i, j, rfl, rfl, hz, q⟩ := h
  obtain ⟨t, rfl⟩ := rx
  obtain ⟨t', rfl⟩ := ry
  exact add_str (fun t' tk => ⟨.str (i ++ j), H, I.tok _, ⟨_, rfl⟩, q⟩) hz
theorem vals1 {x : V} {us : List Value} (r : Vals [x] us) : ∃ u, us = [u] ∧ RelV x u := by
  cases r with
  | cons r1 r2 => cases r2; exact ⟨_, rfl, r1⟩
theorem vals2 {x y : V} {us : List Value} (r : Vals [x, y] us) : ∃ u w', us = [u, w'] ∧ RelV x u ∧ RelV y w' := by
  cases r with
  | cons r1 r2 =>
    cases r2 with
    | cons r3 r4 => cases r4; exact ⟨_, _, rfl, r1, r3⟩
theorem call_abs : CallR X (.builtin "abs") (fun xs H Q => ∃ i, xs = [.int i] ∧ Q (.int (if i < 0 then -i else i)) H) := by
  intro pins s σ H xs us Q I r h
  obtain ⟨i, rfl, q⟩ := h
  obtain ⟨u, rfl, t, rfl⟩ := vals1 r
  exact call_abs_int fun u tk => ⟨.int (if i < 0 then -i else i), H, I.tok _, ⟨_, rfl⟩, q⟩
theorem call_max2 (hc : X.calm = true) : CallR X (.builtin "max") (fun xs H Q => ∃ i j, xs = [.int i, .int j] ∧ Q (.int (if j > i then j else i)) H) := by
  intro pins s σ H xs us Q I r h
  obtain ⟨i, j, rfl, q⟩ := h
  obtain ⟨u, w', rfl, ⟨t, rfl⟩, ⟨t', rfl⟩⟩ := vals2 r
  refine max_two_ints (I.ok.hd hc) fun h' tk k => ⟨_, H, I.kept k, ?_, q⟩
  by_cases hj : j > i
  · rw [if_pos hj, if_pos hj]; exact ⟨_, rfl⟩
  · rw [if_neg hj, if_neg hj]; exact ⟨_, rfl⟩
theorem call_min2 (hc : X.calm = true) : CallR X (.builtin "min") (fun xs H Q => ∃ i j, xs = [.int i, .int j] ∧ Q (.int (if j < i then j else i)) H) := by
  intro pins s σ H xs us Q I r h
  obtain ⟨i, j, rfl, q⟩ := h
  obtain ⟨u, w', rfl, ⟨t, rfl⟩, ⟨t', rfl⟩⟩ := vals2 r
  refine min_two_ints (I.ok.hd hc) fun h' tk k => ⟨_, H, I.kept k, ?_, q⟩
  by_cases hj : j < i
  · rw [if_pos hj, if_pos hj]; exact ⟨_, rfl⟩
  · rw [if_neg hj, if_neg hj]; exact ⟨_, rfl⟩
theorem call_int1 : CallR X (.type "int") (fun xs H Q => (∃ i, xs = [.int i] ∧ Q (.int i) H) ∨ ∃ k, xs = [.bl k] ∧ Q (.int (if k then 1 else 0)) H) := by
  intro pins s σ H xs us Q I r h
  rcases h with ⟨i, rfl, q⟩ | ⟨k, rfl, q⟩
  · obtain ⟨u, rfl, t, rfl⟩ := vals1 r
    exact call_int_int ⟨.int i, H, I, ⟨_, rfl⟩, q⟩
  · obtain ⟨u, rfl, r1⟩ := vals1 r
    cases r1
    exact call_int_bool ⟨.int (if k then 1 else 0), H, I.tok _, ⟨_, rfl⟩, q⟩
def LenV (K : PySem.W.Frag) (x : V) (H : Hp) (n : Nat) : Prop :=
  match x with
  | .str y => y.length ≤ sizeLine ∧ n = y.length
  | .byt y => y.size ≤ sizeLine ∧ n = y.size
  | .ref p => (∃ xs, SqL K H p xs ∧ n = xs.length) ∨ ∃ xs, SqT K H p xs ∧ n = xs.length
  | _ => False
theorem call_len : CallR X (.builtin "len") (fun xs H Q => ∃ x n, xs = [x] ∧ LenV X.K x H n ∧ Q (.int n) H) := by
  intro pins s σ H xs us Q I r h
  obtain ⟨x, n, rfl, e, q⟩ := h
  obtain ⟨u, rfl, rx⟩ := vals1 r
  have hl := line63
  have hs : sizeLine = 16777216 := sizeLine_eq
  cases x with
  | str y =>
    obtain ⟨t, rfl⟩ := rx
    obtain ⟨hy, e'⟩ : y.length ≤ sizeLine ∧ n = y.length := e
    subst e'
    exact len_str (by omega) ⟨.int _, H, I.tok _, ⟨_, rfl⟩, q⟩
  | byt y =>
    obtain ⟨t, rfl⟩ := rx
    obtain ⟨hy, e'⟩ : y.size ≤ sizeLine ∧ n = y.size := e
    subst e'
    exact PySem.W.len_bytes (by omega) ⟨.int _, H, I.tok _, ⟨_, rfl⟩, q⟩
  | ref p =>
    cases rx
    have e' : (∃ xs, SqL X.K H p xs ∧ n = xs.length) ∨ ∃ xs, SqT X.K H p xs ∧ n = xs.length := e
    rcases e' with ⟨xs, hx, e'⟩ | ⟨xs, hx, e'⟩
    · subst e'
      obtain ⟨its, r', pl, hz⟩ := I.list hx
      have hlen := r'.length
      exact Calls.call_len_list pl.isList (by simp only [List.size_toArray]; omega) ⟨.int xs.length, H, I.tok _, ⟨_, by simp only [List.size_toArray]; rw [hlen]⟩, q⟩
    · subst e'
      obtain ⟨its, r', pl, hz⟩ := I.tuple hx
      have hlen := r'.length
      exact len_tuple pl (by simp only [List.size_toArray]; omega) ⟨.int xs.length, H, I.tok _, ⟨_, by simp only [List.size_toArray]; rw [hlen]⟩, q⟩
  | _ => exact (show False from e).elim
end
end L2
namespace L2
open PySem PySem.Spec PyProof.Rows
structure ObjM (h : Heap) (x dx C : Addr) (mA : Str → Option Value) : Prop where
  obj : h.get? x = some (PySem.W.instObj C dx)
  ns : h.Ns1 dx mA
  ne : dx ≠ x
theorem lookIn_ns {h : Heap} {dx : Addr} {mA : Str → Option Value} (n : h.Ns1 dx mA) : ∃ od, h.get? dx = some od ∧ ∀ name, PySem.W.lookIn name od = some (mA name) := by
  obtain ⟨o, es, ep, ho, hd, hk, _, hm⟩ := n
  refine ⟨o, ho, fun name => ?_⟩
  have e := hm name
  unfold nsFind findBy at e
  rw [← Array.find?_toList] at e
  unfold PySem.W.lookIn
  rw [hd]
  dsimp only
  split
  · rename_i y q
    rw [q] at e
    exact congrArg some e
  · rename_i q
    rw [q] at e
    have a : es.toList.any (·.refKey) = false := by
      rw [List.any_eq_false]
      intro y hy
      obtain ⟨z, t, hkey⟩ := hk y (Array.mem_toList_iff.mp hy)
      simp [DictEntry.refKey, hkey]
    have a' : ¬ es.toList.any (·.refKey) = true := by rw [a]; exact Bool.false_ne_true
    rw [if_neg a']
    exact congrArg some e
theorem ObjM.look {h : Heap} {x dx C : Addr} {mA : Str → Option Value} (I : ObjM h x dx C mA) : ∃ od, PySem.W.InstAt h x (PySem.W.instObj C dx) C (some od) ∧ ∀ name, PySem.W.lookIn name od = some (mA name) :=
  let ⟨od, ho, hl⟩ := lookIn_ns I.ns
  ⟨od, ⟨I.obj, rfl, rfl, ho⟩, hl⟩
section
variable {prog : Program} {w : World} {A : Around} {E : Value → Shared → Prop} {s : Shared} {K : PySem.W.Frag} {x dx C f : Addr} {mA : Str → Option Value} {name : Str} {v : Value}
end
section
variable {P : Program} {w : World} {H H' : Hp} {h h' : Heap} {a C dx : Addr} {fs fs' : List (Str × V)}
end
structure Cls (K : PySem.W.Frag) (C : Addr) : Prop where
  pg : PySem.W.plainGet K C Str.empty = true
  hd : PySem.W.hasDictIn K C = true
  po : PySem.W.plainOver K C = true
  sa : PySem.W.findIn K (.ref C) "__setattr__" = some (some (.builtin "object.__setattr__"))
theorem Cls.get {K : PySem.W.Frag} {C : Addr} (c : Cls K C) (f : Str) : PySem.W.plainGet K C f = true := c.pg
structure Con (K : PySem.W.Frag) (C : Addr) (f : Str) (v : V) (u : Value) : Prop where
  at_ : PySem.W.findIn K (.ref C) f = some (some u)
  rel : RelV v u
  get : PySem.W.specialIn K u "__get__" = some none
  cp : PySem.W.copiedNames.contains f = false
structure Meth (K : PySem.W.Frag) (C : Addr) (m : Str) (f : Addr) : Prop where
  at_ : PySem.W.findIn K (.ref C) m = some (some (.ref f))
  fn : PySem.W.isFn K (.ref f) = true
  kp : PySem.W.keepIn K (.ref f) = true
section
variable {X : Cx} {pins : List (Addr × Obj)} {σ : St} {H : Hp} {s : Shared} {a C dx : Addr} {fs : List (Str × V)} {f : Str} {v : V} {A : Around} {E : Value → Shared → Prop}
theorem Inv.made (I : Inv X pins σ H s) : Inv X pins σ (upd (upd H s.heap.objs.size (.own (s.heap.objs.size + 1))) (s.heap.objs.size + 1) (.ins C s.heap.objs.size []))
    { s with heap := (s.heap.push PySem.W.emptyDict).push (PySem.W.instObj C s.heap.objs.size) } := by
  have e1 : (s.heap.push PySem.W.emptyDict).get? s.heap.objs.size = some PySem.W.emptyDict := Heap.get?_push_size s.heap rfl
  have e2 : ((s.heap.push PySem.W.emptyDict).push (PySem.W.instObj C s.heap.objs.size)).get? (s.heap.objs.size + 1) = some (PySem.W.instObj C s.heap.objs.size) := by
    have := Heap.get?_push_size (s.heap.push PySem.W.emptyDict) (o := PySem.W.instObj C s.heap.objs.size) rfl
    rwa [Heap.size_push] at this
  have e3 : (s.heap.push PySem.W.emptyDict).Ns s.heap.objs.size (fun _ => none) := ⟨PySem.W.emptyDict, #[], _, e1, rfl, (fun e he => absurd he (by simp)), fun _ => rfl⟩
  have I1 := I.laid (a := s.heap.objs.size) (o := .own (s.heap.objs.size + 1)) (h' := s.heap.push PySem.W.emptyDict) (t' := s.toks) (fun b u q => Heap.get?_push_of_some _ q) (Nat.le_refl _) ⟨_, e1⟩
  refine I1.laid (a := s.heap.objs.size + 1) (o := .ins C s.heap.objs.size []) (t' := s.toks) (fun b u q => Heap.get?_push_of_some _ q) (Nat.le_of_eq (Heap.size_push _ _)) ?_
  have ne : s.heap.objs.size ≠ s.heap.objs.size + 1 := Nat.ne_of_lt (Nat.lt_succ_self _)
  refine ⟨by rw [upd_ne ne, upd_same], Nat.zero_le _, ne, e2, fun _ => none, (Heap.Ns1.of_empty e3).at fun o q => Heap.get?_push_of_some _ q, fun _ => True.intro, fun y hy => absurd rfl hy⟩
end
section
variable {X : Cx} {o e value : Expr} {f : Str} {pos pos' tpos : Pos} {ta tv : TE}
end
section
variable {X : Cx} {pins : List (Addr × Obj)} {σ : St} {H : Hp} {s : Shared} {A : Around} {E : Value → Shared → Prop} {Q : Value → Shared → Prop} {c : Value} {b : Bool}
inductive TyOf (K : PySem.W.Frag) (H : Hp) : V → Value → Prop where
  | non : TyOf K H .non (.type "NoneType")
  | bl (x : Bool) : TyOf K H (.bl x) (.type "bool")
  | int (i : Int) : TyOf K H (.int i) (.type "int")
  | str (x : Str) : TyOf K H (.str x) (.type "str")
  | flt (x : UInt64) : TyOf K H (.flt x) (.type "float")
  | lst {a : Addr} {xs : List V} (e : H a = some (.lst xs)) : TyOf K H (.ref a) (.type "list")
  | frz {a : Addr} {o : Obj} {xs : List V} (e : H a = some (.frz o (.lst xs))) : TyOf K H (.ref a) (.type "list")
  | tup {a : Addr} {xs : List V} (e : H a = some (.tup xs)) : TyOf K H (.ref a) (.type "tuple")
  | dK {a : Addr} {kvs : List (Key × V)} (e : H a = some (.dK kvs)) : TyOf K H (.ref a) (.type "dict")
  | dT {a : Addr} {kvs : List (List Key × V)} (e : H a = some (.dT kvs)) : TyOf K H (.ref a) (.type "dict")
  | ins {a C dx : Addr} {fs : List (Str × V)} (e : H a = some (.ins C dx fs)) (cl : Cls K C) (ha : PySem.W.findIn K (.ref C) "__class__" = some (some (.builtin "object.__class__")))
      (hn : PySem.W.specialIn K (.builtin "object.__class__") "__get__" = some (some (.builtin "getset_descriptor.__get__"))) (htk : PySem.W.takesIn K (.builtin "object.__class__") = some true)
      (hm : PySem.W.mroIn K C (.type "object") = some true) : TyOf K H (.ref a) (.ref C)
end
end L2
namespace L2
open PySem PySem.Spec PyProof.Rows
structure Room (k : Nat) (A : Around) : Prop where
  hd : A.handled = none
  dp : A.depth + 3 * k + 5 < recursionLimit
  un : A.units + 16 * k + 200 < cLine
theorem Room.mono {j k : Nat} {A : Around} (r : Room k A) (h : j ≤ k) : Room j A := ⟨r.hd, by have := r.dp; omega, by have := r.un; omega⟩
theorem Room.deeper {k : Nat} {A : Around} (r : Room (k + 1) A) (env : Env) : Room k (A.deeper env) :=
  ⟨r.hd, by have := r.dp; show A.depth + 1 + 3 * k + 5 < _; omega, by have := r.un; show A.units + 3 + 16 * k + 200 < _; omega⟩
theorem Room.in1 {k : Nat} {A : Around} (r : Room (k + 1) A) : Room k A.in1 :=
  ⟨r.hd, by have := r.dp; show A.depth + 3 * k + 5 < _; omega, by have := r.un; show A.units + 1 + 16 * k + 200 < _; omega⟩
theorem make_depth {A : Around} {C : Addr} {us : List Value} {kw : List (Str × Value)} : (A.under (.builtin "type.__call__" ⟨.ref C :: us, kw⟩)).depth = A.depth + 1 := by
  first | rfl | simp [Around.under, Code.weight, Code.isCreation, Code.isGuard, Code.isCaller, Code.frames, Code.isFrame, guardIds]
theorem make_units {A : Around} {C : Addr} {us : List Value} {kw : List (Str × Value)} : (A.under (.builtin "type.__call__" ⟨.ref C :: us, kw⟩)).units = A.units + 1 := by
  first | rfl | simp [Around.under, Code.cUnits, Code.frames, Code.isFrame]
theorem Room.make {k : Nat} {A : Around} (r : Room (k + 1) A) (C : Addr) (us : List Value) (kw : List (Str × Value)) : Room k (A.under (.builtin "type.__call__" ⟨.ref C :: us, kw⟩)) :=
  ⟨r.hd, by have := r.dp; rw [make_depth]; omega, by have := r.un; rw [make_units]; omega⟩
theorem Room.depth {k : Nat} {A : Around} (r : Room k A) : A.depth < recursionLimit := by have := r.dp; omega
theorem Room.units {k : Nat} {A : Around} (r : Room k A) : A.units + 64 < cLine := by have := r.un; omega
def tNil : TA := fun _ H Q => Q [] H
def tCons (ta : TE) (tr : TA) : TA := fun σ H Q => ta σ H fun x H1 => tr σ H1 fun xs H2 => Q (x :: xs) H2
section
variable {X : Cx} {e : Expr} {es : List Expr} {te : TE} {t : TA} {pos : Pos}
theorem pa_nil : PA X [] tNil := fun _ _ _ _ H Q I h => Calls.spliced_nil ⟨[], H, I, .nil, h⟩
theorem pa_cons (ha : PE X e te) (hr : PA X es t) (hs : starEach (e :: es) X.env = (false, eval e X.env) :: starEach es X.env := by rfl) : PA X (e :: es) (tCons te t) := by
  intro pos pins s σ H Q I h
  rw [hs]
  show wpAny _ _ (spliced ((false, eval e X.env) :: backTo pos (starEach es X.env))) _ _ s
  refine Calls.spliced_cons (thn (ha pins s σ H _ I h) fun u s1 ⟨x, H1, I1, r1, q1⟩ => ?_)
  exact thn (hr pos pins s1 σ H1 _ I1 q1) fun us s2 ⟨xs, H2, I2, r2, q2⟩ => ⟨x :: xs, H2, I2, .cons r1 r2, q2⟩
def tTup (t : TA) : TE := fun σ H Q => t σ H fun xs H1 => xs.length ≤ sizeLine ∧ ∀ p, H1 p = none → Q (.ref p) (upd H1 p (.tup xs))
def tLst (t : TA) : TE := fun σ H Q => t σ H fun xs H1 => xs.length ≤ sizeLine ∧ ∀ p, H1 p = none → Q (.ref p) (upd H1 p (.lst xs))
theorem pe_tup {x1} (h : PA X es t) : PE X (.Tuple es x1 pos) (tTup t) := by
  intro pins s σ H Q I hq
  refine wpAny_Tuple_spliced (thn (h pos pins s σ H _ I hq) fun us s1 ⟨xs, H1, I1, r, z, q⟩ => ⟨by rw [← r.length]; exact z, ?_⟩)
  have hf : H1 s1.heap.objs.size = none := I1.hok.fresh (Nat.le_refl _)
  refine ⟨.ref s1.heap.objs.size, upd H1 s1.heap.objs.size (.tup xs), I1.laid (t' := s1.toks) (fun b u e => Heap.get?_push_of_some _ e) (Nat.le_refl _) ?_, rfl, q _ hf⟩
  exact ⟨z, us, r, ⟨_, Heap.get?_push_size _ rfl, rfl, _, rfl⟩⟩
theorem pe_lst (h : PA X es t) : PE X (.List es pos) (tLst t) := by
  intro pins s σ H Q I hq
  refine wpAny_List_spliced (thn (h pos pins s σ H _ I hq) fun us s1 ⟨xs, H1, I1, r, z, q⟩ => ⟨by rw [← r.length]; exact z, ?_⟩)
  have hf : H1 s1.heap.objs.size = none := I1.hok.fresh (Nat.le_refl _)
  refine ⟨.ref s1.heap.objs.size, upd H1 s1.heap.objs.size (.lst xs), I1.laid (t' := s1.toks) (fun b u e => Heap.get?_push_of_some _ e) (Nat.le_refl _) ?_, rfl, q _ hf⟩
  exact ⟨z, us, 0, r, Heap.get?_push_size _ rfl⟩
end
abbrev Sp := List V → Hp → VK → XK → Prop
abbrev CXT := List Env → Hp → Shared → XK → Value → Shared → Prop
structure Env0 (P : Program) (w : World) (K : PySem.W.Frag) (mg : Str → Option Value) (base : Heap) (A : Around) (outer : List Env) (s : Shared) (H : Hp) : Prop where
  frames : A.frames = some outer
  mod : Mod K mg base
  bs : ∀ b o, base.get? b = some o → s.heap.get? b = some o ∧ H b = none
  bsz : base.objs.size ≤ s.heap.objs.size
  funs : s.heap.FunFrames base outer
  frf : ∀ b ∈ frs outer, H b = none
  hok : HOk P w H s.heap
  bare : AllBare s.gens
def CE (outer : List Env) (P : Program) (w : World) (H : Hp) (s : Shared) (Q : VK) (u : Value) (s' : Shared) : Prop :=
  ∃ v H', s'.os = s.os ∧ AllBare s'.gens ∧ Un (frs outer) [] H H' s.heap s'.heap ∧ HOk P w H' s'.heap ∧ RelV v u ∧ Q v H'
def CR (CX : CXT) (outer : List Env) (P : Program) (w : World) (H : Hp) (s : Shared) (Q : VK) (E : XK) (r : Result) (s' : Shared) : Prop :=
  match r with
  | .ok (.ret u) => CE outer P w H s Q u s'
  | .ok _ => False
  | .error e => CX outer H s E e s'
structure FnOk (P : Program) (w : World) (K : PySem.W.Frag) (mg : Str → Option Value) (base : Heap) (CX : CXT) (k : Nat) (f : Addr) (fd : FuncData) (ps : List Str) (sp : Sp) : Prop where
  len : ∀ vs H Q E, sp vs H Q E → vs.length = ps.length
  run : ∀ (A : Around) (outer : List Env) (s : Shared) (H : Hp) (args : Args) (us : List Value) (vs : List V) (Q : VK) (E : XK), Room k A → Env0 P w K mg base A outer s H → BindsTo s fd args (ps.zip us) → Vals vs us → sp vs H Q E →
    codeAny (model P w) A (.call (.ref f) args) (CR CX outer P w H s Q E) s
theorem FnOk.mono {P : Program} {w : World} {K : PySem.W.Frag} {mg : Str → Option Value} {base : Heap} {CX : CXT} {j k : Nat} {f : Addr} {fd : FuncData} {ps : List Str} {sp : Sp} (F : FnOk P w K mg base CX j f fd ps sp) (h : j ≤ k) :
    FnOk P w K mg base CX k f fd ps sp := ⟨F.len, fun A outer s H args us vs Q E hr => F.run A outer s H args us vs Q E (hr.mono h)⟩
theorem FnOk.imp {P : Program} {w : World} {K : PySem.W.Frag} {mg : Str → Option Value} {base : Heap} {CX : CXT} {k : Nat} {f : Addr} {fd : FuncData} {ps : List Str} {sp sp' : Sp} (F : FnOk P w K mg base CX k f fd ps sp)
    (h : ∀ vs H Q E, sp' vs H Q E → sp vs H Q E) : FnOk P w K mg base CX k f fd ps sp' :=
  ⟨fun vs H Q E q => F.len vs H Q E (h _ _ _ _ q), fun A outer s H args us vs Q E hr he hb hv hs => F.run A outer s H args us vs Q E hr he hb hv (h _ _ _ _ hs)⟩
theorem Env0.make {P : Program} {w : World} {K : PySem.W.Frag} {mg : Str → Option Value} {base : Heap} {A : Around} {outer : List Env} {s : Shared} {H : Hp} (e : Env0 P w K mg base A outer s H) (C : Addr) (us : List Value) (kw : List (Str × Value)) :
    Env0 P w K mg base (A.under (.builtin "type.__call__" ⟨.ref C :: us, kw⟩)) outer s H := ⟨by first | exact e.frames | (simpa [Around.under, Code.envs, Code.isFrame, pushEnvs] using e.frames), e.mod, e.bs, e.bsz, e.funs, e.frf, e.hok, e.bare⟩
theorem Env0.in1 {P : Program} {w : World} {K : PySem.W.Frag} {mg : Str → Option Value} {base : Heap} {A : Around} {outer : List Env} {s : Shared} {H : Hp} (e : Env0 P w K mg base A outer s H) :
    Env0 P w K mg base A.in1 outer s H := ⟨e.frames, e.mod, e.bs, e.bsz, e.funs, e.frf, e.hok, e.bare⟩
section
variable {X : Cx} {pins : List (Addr × Obj)} {σ : St} {H : Hp} {s s' : Shared}
theorem Inv.env0 (I : Inv X pins σ H s) : Env0 X.prog X.w X.K X.mg X.base X.A X.stack s H :=
  ⟨I.ok.frames, I.ok.mod, I.bs, Nat.le_trans I.ok.bsz I.sz, I.stack, I.stkFree, I.hok, I.bare⟩
theorem Inv.after {Q : VK} {u : Value} (I : Inv X pins σ H s) (h : CE X.stack X.prog X.w H s Q u s') : EP X pins σ Q u s' := by
  obtain ⟨v, H', os, bare, un, hok, r, q⟩ := h
  obtain ⟨hh, g, d, t, os'⟩ := s'
  obtain rfl : os' = s.os := os
  exact ⟨v, H', I.call (h' := hh) (g' := g) (d' := d) (t' := t) (ch := []) un hok bare (fun b z => absurd z (by simp)), r, q⟩
end
def tCall (sp : Sp) (dvs : List V) (E : XK) (t : TA) : TE := fun σ H Q => t σ H fun vs H1 => sp (vs ++ dvs) H1 Q E
def Binds (K : PySem.W.Frag) (fd : FuncData) (ps : List Str) (ds : List Value) : Prop :=
  ∀ (s : Shared) (us : List Value), K.In s.heap → (us ++ ds).length = ps.length → BindsTo s fd ⟨us, []⟩ (ps.zip (us ++ ds))
theorem Binds.all {K : PySem.W.Frag} {fd : FuncData} {ps : List Str} (h : ∀ us : List Value, us.length = ps.length → bindArgs fd ⟨us, []⟩ = pure (ps.zip us)) : Binds K fd ps [] := fun s us _ hl => by
  rw [List.append_nil] at hl ⊢
  exact .of_eq (h us hl)
def Passes (CX : CXT) (X : Cx) (E : XK) : Prop := ∀ (pins : List (Addr × Obj)) (σ : St) (H : Hp) (s : Shared) (e : Value) (s' : Shared), Inv X pins σ H s → CX X.stack H s E e s' → X.xe e s'
section
variable {X : Cx} {CX : CXT} {k : Nat} {f C : Addr} {fd : FuncData} {ps : List Str} {sp : Sp} {dvs : List V} {ds : List Value} {E : XK} {x m : Str} {p pos apos : Pos} {e o : Expr} {es : List Expr} {ta : TE} {t : TA}
theorem run_fn {pins : List (Addr × Obj)} {σ : St} {H : Hp} {s : Shared} {Q : VK} {us : List Value} {vs : List V} (F : FnOk X.prog X.w X.K X.mg X.base CX k f fd ps sp) (hr : Room k X.A) (hb : Binds X.K fd ps ds) (hd : Vals dvs ds) (hx : Passes CX X E)
    (I : Inv X pins σ H s) (r : Vals vs us) (h : sp (vs ++ dvs) H Q E) : wpAny (model X.prog X.w) X.A (call (.ref f) us) (EP X pins σ Q) X.xe s := by
  have r2 : Vals (vs ++ dvs) (us ++ ds) := r.append hd
  have hl : (us ++ ds).length = ps.length := by rw [← r2.length]; exact F.len _ _ _ _ h
  refine wpAny_call (codeAny_mono (F.run X.A X.stack s H ⟨us, []⟩ (us ++ ds) (vs ++ dvs) Q E hr I.env0 (hb s us I.kIn hl) r2 h) fun r s' hq => ?_)
  cases r with
  | error e => exact hx pins σ H s e s' I hq
  | ok fl =>
    cases fl with
    | ret u => exact I.after hq
    | next => exact False.elim hq
    | brk => exact False.elim hq
    | cont => exact False.elim hq
theorem pe_call (F : FnOk X.prog X.w X.K X.mg X.base CX k f fd ps sp) (hr : Room k X.A) (hg : Gl X x) (hm : X.mg x = some (.ref f)) (hk : PySem.W.keepIn X.K (.ref f) = true) (hb : Binds X.K fd ps ds) (hd : Vals dvs ds) (hx : Passes CX X E)
    (ha : PA X (e :: es) t) (hdb : (x == ("__debug__" : Str)) = false := by decide) (he : starEach (e :: es) X.env = (false, eval e X.env) :: starEach es X.env := by rfl) (hpl : (backTo pos (starEach es X.env)).any (·.1) = false := by rfl) :
    PE X (.Call (.Name x p) (e :: es) [] pos) (tCall sp dvs E t) := by
  intro pins s σ H Q I h
  refine wpAny_Call_Name_kw (ld_glob I hg hm ?_ hdb)
  refine PySem.W.callWith_K (h₀ := X.base) I.ok.mod.kin hk (thn (ha pos pins s σ H _ I h) fun us s1 ⟨vs, H1, I1, r, q⟩ => ⟨I1.kIn, ?_⟩) he hpl
  exact run_fn F hr hb hd hx I1 r q
structure Mk (K : PySem.W.Frag) (C f : Addr) : Prop where
  makes : PySem.W.makesIn K C = true
  init : PySem.W.findIn K (.ref C) "__init__" = some (some (.ref f))
  fn : PySem.W.isFn K (.ref f) = true
  kp : PySem.W.keepIn K (.ref C) = true
end
section
variable {X : Cx} {CX : CXT} {k : Nat} {f C : Addr} {fd : FuncData} {ps ks : List Str} {sp : Sp} {E : XK} {x m : Str} {p pos apos kpos : Pos} {e o : Expr} {es : List Expr} {kws : List Keyword} {te ta : TE} {t tk : TA} {nm : Option Str}
structure KBinds (K : PySem.W.Frag) (fd : FuncData) (ps ks : List Str) (g : List Value → List Value → List Value) (gV : List V → List V → List V) : Prop where
  to : ∀ (s : Shared) (us ws : List Value), K.In s.heap → (g us ws).length = ps.length → BindsTo s fd ⟨us, ks.zip ws⟩ (ps.zip (g us ws))
  rel : ∀ {vs : List V} {us : List Value} {zs : List V} {ws : List Value}, Vals vs us → Vals zs ws → Vals (gV vs zs) (g us ws)
variable {g : List Value → List Value → List Value} {gV : List V → List V → List V}
end
structure FnScope (N P : List Str) (sc : Scope) : Prop where
  kind : sc.kind = .function
  co : sc.isCoroutine = false
  gen : sc.isGenerator = false
  nd : N.Nodup
  pre : N.take P.length = P
  par : ∀ x ∈ P, sc.names.lookup x = some .local ∨ sc.names.lookup x = some .cell
  nofree : ∀ y ∈ sc.names, y.2 ≠ .free
theorem bindL_out {kindOf : Str → Option NameKind} {x : Str} : ∀ {binds : List (Str × Value)} {m : Str → Option Value}, (∀ v, (x, v) ∉ binds) → bindL kindOf binds m x = m x
  | [], _, _ => rfl
  | (n, v) :: r, m, h => by
    unfold bindL
    rw [bindL_out fun w hw => h w (List.mem_cons_of_mem _ hw)]
    split
    · have : x ≠ n := by rintro rfl; exact h v List.mem_cons_self
      simp [this]
    · rfl
theorem bindC_out {kindOf : Str → Option NameKind} {x : Str} : ∀ {binds : List (Str × Value)} {m : Str → Option Value}, (∀ v, (x, v) ∉ binds) → bindC kindOf binds m x = m x
  | [], _, _ => rfl
  | (n, v) :: r, m, h => by
    unfold bindC
    rw [bindC_out fun w hw => h w (List.mem_cons_of_mem _ hw)]
    split
    · rfl
    · have : x ≠ n := by rintro rfl; exact h v List.mem_cons_self
      simp [this]
theorem bindL_get {kindOf : Str → Option NameKind} {x : Str} {v : Value} : ∀ {P : List Str} {vs : List Value} {i : Nat} {m : Str → Option Value}, P.Nodup → P[i]? = some x → vs[i]? = some v → kindOf x = some .local →
    bindL kindOf (P.zip vs) m x = some v
  | [], _, _, _, _, h, _, _ => by simp at h
  | _ :: _, [], _, _, _, _, h, _ => by simp at h
  | p :: P, w :: vs, 0, m, nd, h1, h2, hk => by
    simp at h1 h2; subst h1; subst h2
    show bindL kindOf ((p, w) :: P.zip vs) m p = _
    unfold bindL
    rw [bindL_out fun v hv => (List.nodup_cons.mp nd).1 (List.of_mem_zip hv).1, if_pos hk]
    simp
  | p :: P, w :: vs, i + 1, m, nd, h1, h2, hk => by
    show bindL kindOf ((p, w) :: P.zip vs) m x = _
    unfold bindL
    exact bindL_get (i := i) (List.nodup_cons.mp nd).2 (by simpa using h1) (by simpa using h2) hk
theorem bindC_get {kindOf : Str → Option NameKind} {x : Str} {v : Value} : ∀ {P : List Str} {vs : List Value} {i : Nat} {m : Str → Option Value}, P.Nodup → P[i]? = some x → vs[i]? = some v → kindOf x ≠ some .local →
    bindC kindOf (P.zip vs) m x = some v
  | [], _, _, _, _, h, _, _ => by simp at h
  | _ :: _, [], _, _, _, _, h, _ => by simp at h
  | p :: P, w :: vs, 0, m, nd, h1, h2, hk => by
    simp at h1 h2; subst h1; subst h2
    show bindC kindOf ((p, w) :: P.zip vs) m p = _
    unfold bindC
    rw [bindC_out fun v hv => (List.nodup_cons.mp nd).1 (List.of_mem_zip hv).1, if_neg hk]
    simp
  | p :: P, w :: vs, i + 1, m, nd, h1, h2, hk => by
    show bindC kindOf ((p, w) :: P.zip vs) m x = _
    unfold bindC
    exact bindC_get (i := i) (List.nodup_cons.mp nd).2 (by simpa using h1) (by simpa using h2) hk
def start (N : List Str) (vs : List V) : St := vs.map some ++ List.replicate (N.length - vs.length) none
def cxOf (CX : CXT) (P : Program) (w : World) (K : PySem.W.Frag) (mg : Str → Option Value) (base : Heap) (N : List Str) (qual : Str) (scope : Scope) (f : Addr) (cd : Value) (A : Around) (outer : List Env) (s : Shared) (H : Hp) (E : XK) : Cx where
  prog := P
  w := w
  K := K
  mg := mg
  base := base
  A := A.deeper (envOfC qual scope s.heap.objs.size f cd)
  N := N
  s_0 := s
  H_0 := H
  env := envOfC qual scope s.heap.objs.size f cd
  outer := outer
  stack := envOfC qual scope s.heap.objs.size f cd :: outer
  ex := []
  calm := true
  fn := fun _ => true
  pn := []
  xe := fun e s' => wpAny (model P w) (A.deeper (envOfC qual scope s.heap.objs.size f cd)) (leaving (envOfC qual scope s.heap.objs.size f cd) e) (fun _ s'' => CX outer H s E e s'') (fun e' s'' => CX outer H s E e' s'') s'
theorem cell_has {sc : Scope} {n : Nat} {x : Str} (h : sc.names.lookup x = some .cell) : ∃ c, (cellsFrom n sc.names []).lookup x = some c := by
  have q := PySem.W.cellsFrom_some sc.names n [] (.inl h)
  exact Option.isSome_iff_exists.mp q
theorem inv_start {CX : CXT} {P : Program} {w : World} {K : PySem.W.Frag} {mg : Str → Option Value} {base : Heap} {N ps : List Str} {qual : Str} {scope : Scope} {f : Addr} {cd : Value} {A : Around} {outer : List Env} {s s1 : Shared} {H : Hp} {E : XK} {us : List Value} {vs : List V}
    (S : FnScope N ps scope) (hd : A.handled = none) (e0 : Env0 P w K mg base A outer s H) (hl : vs.length = ps.length) (r : Vals vs us)
    (x : InCallC s s.heap.objs.size (bindL (envOfC qual scope s.heap.objs.size f cd).kindOf (ps.zip us) fun _ => none) (cellsFrom (s.heap.objs.size + 1) scope.names []) (bindC (envOfC qual scope s.heap.objs.size f cd).kindOf (ps.zip us) fun _ => none) s1) :
    Inv (cxOf CX P w K mg base N qual scope f cd A outer s H E) [] (start N vs) H s1 := by
  have hpl : ps.length ≤ N.length := by have := congrArg List.length S.pre; rw [List.length_take] at this; omega
  obtain ⟨h1, tk, rfl, hk⟩ := x.done
  have noA : ∀ b : Addr, b ∉ (cxOf CX P w K mg base N qual scope f cd A outer s H E).ex := fun b z => absurd (show b ∈ ([] : List Addr) from z) (by simp)
  refine ⟨⟨e0.mod, S.kind, rfl, rfl, Nat.le_refl _, fun y z c h1 h2 => ?_, fun y hy => ?_, fun y c _ h => ?_, fun _ => hd, Around.frames_deeper e0.frames, .inr ⟨rfl, rfl⟩, fun b z => absurd z (noA b), e0.bs, e0.bsz, fun b _ _ => noA b, fun b z => absurd z (noA b), e0.funs, e0.frf⟩,
    rfl, e0.bare, Un.kept hk, ⟨_, x.toInCall.ns, fun i y v h1 h2 h3 => ?_⟩, fun y c h => ⟨_, x.cell y c h⟩, e0.hok.fresh (Nat.le_refl _), fun y c h => ?_, fun p hp => absurd (show p ∈ ([] : List (Addr × Obj)) from hp) (by simp), e0.hok.kept hk, ?_⟩
  · exact name_of_addr x.apart (PySem.mem_of_lookup h1) (PySem.mem_of_lookup h2)
  · have hy : scope.names.lookup y = some .cell ∨ scope.names.lookup y = some .free := hy
    rcases hy with hy | hy
    · exact cell_has hy
    · exact absurd rfl (S.nofree _ (PySem.mem_of_lookup hy))
  · exact Nat.le_of_lt (x.above y c (PySem.mem_of_lookup h))
  · have hi : i < vs.length := by
      unfold start at h2
      by_cases hi : i < vs.length
      · exact hi
      · rw [List.getElem?_append_right (by simpa using hi)] at h2
        rw [List.getElem?_replicate] at h2
        split at h2 <;> cases h2
    have ha : vs[i]? = some v := by
      unfold start at h2
      rw [List.getElem?_append_left (by simpa using hi), List.getElem?_map] at h2
      cases e : vs[i]? with
      | none => rw [e] at h2; cases h2
      | some a => rw [e] at h2; cases h2; rfl
    obtain ⟨u, hu, rv⟩ := r.get ha
    have hp : ps[i]? = some y := by
      rw [← S.pre, List.getElem?_take_of_lt (by omega)]; exact h1
    have ndP : ps.Nodup := by rw [← S.pre]; exact S.nd.sublist (List.take_sublist _ _)
    refine ⟨u, rv, ?_⟩
    rcases S.par y (List.mem_of_getElem? hp) with k | k
    · exact .inl ⟨k, bindL_get ndP hp hu k⟩
    · obtain ⟨c, e⟩ := cell_has (n := s.heap.objs.size + 1) k
      refine .inr ⟨.inl k, c, e, ?_⟩
      have q := x.cell y c e
      rw [bindC_get ndP hp hu (by show scope.names.lookup y ≠ _; rw [k]; decide)] at q
      exact q
  · exact e0.hok.fresh (Nat.le_of_lt (x.above y c (PySem.mem_of_lookup h)))
  · unfold start
    show _ = N.length
    rw [List.length_append, List.length_map, List.length_replicate]
    omega
theorem fn_of {CX : CXT} {P : Program} {w : World} {K : PySem.W.Frag} {mg : Str → Option Value} {base : Heap} {k : Nat} {f : Addr} {name qual : Str} {params : Arguments} {body : List Stmt} {scope : Scope} {dV kV doc pm cdv ct oc : Value} {an od : Option Addr}
    {osl : Array (Option Value)} {N ps : List Str} {sp : Sp} (lk : K.lookup f = some ⟨oc, od, .func (PySem.W.fnOf name qual params body scope dV kV doc pm an cdv ct), osl⟩) (hcd : PySem.W.codeIn K cdv qual = true) (S : FnScope N ps scope)
    (len : ∀ vs H Q E, sp vs H Q E → vs.length = ps.length)
    (hbody : ∀ (A : Around) (outer : List Env) (s : Shared) (H : Hp) (vs : List V) (Q : VK) (E : XK), Room k (A.deeper (envOfC qual scope s.heap.objs.size f cdv)) → sp vs H Q E →
      ∃ t, PSs (cxOf CX P w K mg base N qual scope f cdv A outer s H E) body t ∧ t { nx := fun _ H' => Q .non H', rt := Q } (start N vs) H) :
    FnOk P w K mg base CX (k + 1) f (PySem.W.fnOf name qual params body scope dV kV doc pm an cdv ct) ps sp := by
  refine ⟨len, fun A outer s H args us vs Q E hr e0 hb r hsp => ?_⟩
  have hl := len _ _ _ _ hsp
  have KX : K.In s.heap := e0.mod.kin.keeps fun b o e => (e0.bs b o e).1
  have lim : s.heap.NoLimit := e0.mod.nolimit.keeps fun b o e => (e0.bs b o e).1
  have hkind : ∀ y ∈ ps.zip us, scope.names.lookup y.1 = some .local ∨ (scope.names.lookup y.1 = some .cell ∧ ((cellsFrom (s.heap.objs.size + 1) scope.names []).lookup y.1).isSome = true) := fun ⟨n, v⟩ hy => by
    rcases S.par n (List.of_mem_zip hy).1 with q | q
    · exact .inl q
    · exact .inr ⟨q, PySem.W.cellsFrom_some _ _ _ (.inl q)⟩
  refine codeAny_call_function hr.depth (KX _ _ lk) rfl S.co S.gen rfl (PySem.W.codeRec_of KX hcd) (hb _ _ _ _ ?_)
  refine wpAny_newFunctionEnv_cells S.kind hkind fun env he s1 x => ?_
  subst he
  refine ⟨lim.keeps x.toInCall.keep, codeAny_func ?_⟩
  obtain ⟨t, ht, hq⟩ := hbody A outer s H vs Q E (hr.deeper _) hsp
  have I : Inv (cxOf CX P w K mg base N qual scope f cdv A outer s H E) [] (start N vs) H s1 := inv_start S hr.hd e0 hl r x
  refine wpAny_mono (ht [] s1 (start N vs) H _ I hq) (fun fl s' hs => ?_) fun e s' hs => hs
  have fin : ∀ {σ' : St} {H' : Hp} {v : V} {u : Value}, Inv (cxOf CX P w K mg base N qual scope f cdv A outer s H E) [] σ' H' s' → RelV v u → Q v H' → CE outer P w H s Q u s' :=
    fun {σ' H' v u} J rv q => ⟨v, H', J.os, J.bare, J.base, J.hok, rv, q⟩
  cases fl with
  | ret u =>
    obtain ⟨v, σ', H', J, rv, q⟩ := hs
    exact fin J rv q
  | next =>
    obtain ⟨σ', H', J, q⟩ := hs
    exact fin (v := V.non) (u := Value.none) J rfl q
  | brk =>
    obtain ⟨_, _, _, q⟩ := hs
    exact False.elim q
  | cont =>
    obtain ⟨_, _, _, q⟩ := hs
    exact False.elim q
end L2
namespace L2
open PySem PySem.Spec PyProof.Rows
section
variable {X : Cx} {x : Str} {p pos : Pos} {e : Expr} {es : List Expr} {t : TA} {id T : String} {r : List V → Hp → VK → Prop}
def tCB (r : List V → Hp → VK → Prop) (t : TA) : TE := fun σ H Q => t σ H fun vs H1 => r vs H1 Q
theorem pe_callB (hc : CallR X (.builtin id) r) (hg : Gl X x) (hm : X.mg x = none) (hv : bootBuiltins x = some (.builtin id)) (ha : PA X (e :: es) t) (hn : x ≠ "__name__" := by decide) (hdb : (x == ("__debug__" : Str)) = false := by decide)
    (he : starEach (e :: es) X.env = (false, eval e X.env) :: starEach es X.env := by rfl) (hpl : (backTo pos (starEach es X.env)).any (·.1) = false := by rfl) : PE X (.Call (.Name x p) (e :: es) [] pos) (tCB r t) := by
  intro pins s σ H Q I h
  refine wpAny_Call_Name_kw (ld_blt I hg hm hv ?_ hn hdb)
  exact PyProof.Rows.callWith_builtin1 (thn (ha pos pins s σ H _ I h) fun us s1 ⟨vs, H1, I1, r1, q1⟩ => hc pins s1 σ H1 vs us Q I1 r1 q1) he hpl
theorem pe_callTy (hc : CallR X (.type T) r) (hg : Gl X x) (hm : X.mg x = none) (hv : bootBuiltins x = some (.type T)) (ha : PA X (e :: es) t) (hn : x ≠ "__name__" := by decide) (hdb : (x == ("__debug__" : Str)) = false := by decide)
    (he : starEach (e :: es) X.env = (false, eval e X.env) :: starEach es X.env := by rfl) (hpl : (backTo pos (starEach es X.env)).any (·.1) = false := by rfl) : PE X (.Call (.Name x p) (e :: es) [] pos) (tCB r t) := by
  intro pins s σ H Q I h
  refine wpAny_Call_Name_kw (ld_blt I hg hm hv ?_ hn hdb)
  exact PyProof.Rows.callWith_type1 (thn (ha pos pins s σ H _ I h) fun us s1 ⟨vs, H1, I1, r1, q1⟩ => hc pins s1 σ H1 vs us Q I1 r1 q1) he hpl
end
end L2
namespace HT
open PySem PyProof.Rows
section
open PySem.SeqAt
open PySem.AutoSeq1 (wpAny_loadPart')
open PySem.MeetsSeq PySem.MeetsSeq2 PySem.MeetsSeq3
end
section
variable {prog : Program} {w : World} {A : Around} {E : Value → Shared → Prop} {s : Shared}
def sIx (n d : Nat) : Option Int → Nat
  | none => d
  | some v => if v < 0 then (v + (n : Int)).toNat else min v.toNat n
theorem sIx_le (n d : Nat) (hd : d ≤ n) (o : Option Int) : sIx n d o ≤ n := by
  cases o with
  | none => exact hd
  | some v =>
    show (if v < 0 then (v + (n : Int)).toNat else min v.toNat n) ≤ n
    by_cases hv : v < 0
    · rw [if_pos hv]; omega
    · rw [if_neg hv]; exact Nat.min_le_right _ _
end
end HT
namespace L2
open PySem PySem.Spec PyProof.Rows
abbrev TO := St → Hp → (Option Int → Hp → Prop) → Prop
def PO (X : Cx) (e : Option Expr) (t : TO) : Prop :=
  ∀ (pins : List (Addr × Obj)) (s : Shared) (σ : St) (H : Hp) (Q : Option Int → Hp → Prop), Inv X pins σ H s → t σ H Q →
    wpAny (model X.prog X.w) X.A (evalPart e X.env) (fun u s' => ∃ o H', Inv X pins σ H' s' ∧ IsPart u o ∧ Q o H') X.xe s
def tNoPart : TO := fun _ H Q => Q none H
def tPart (t : TE) : TO := fun σ H Q => t σ H fun x H1 => ∃ i, x = .int i ∧ Q (some i) H1
section
variable {X : Cx} {e : Expr} {te : TE} {lo hi : Option Expr} {tl th : TO} {pos p2 : Pos}
theorem po_none : PO X none tNoPart := by
  intro pins s σ H Q I h
  rw [evalPart_none]
  exact wpAny_pure ⟨none, H, I, .none, h⟩
theorem po_some (h : PE X e te) : PO X (some e) (tPart te) := by
  intro pins s σ H Q I hw
  rw [evalPart_some]
  refine thn (h pins s σ H _ I hw) fun u s1 ⟨x, H1, I1, r1, q1⟩ => ?_
  obtain ⟨i, rfl, q⟩ := q1
  obtain ⟨t, rfl⟩ := r1
  exact ⟨some i, H1, I1, .int i t, q⟩
def SlR (X : Cx) (r : V → Option Int → Option Int → Hp → VK → Prop) : Prop :=
  ∀ (pins : List (Addr × Obj)) (s : Shared) (σ : St) (H : Hp) (x : V) (v vl vu : Value) (lo hi : Option Int) (sl : Addr) (Q : VK), Inv X pins σ H s → RelV x v → s.heap.IsSliceOf sl vl vu .none → IsPart vl lo → IsPart vu hi → r x lo hi H Q →
    ∃ T id, typeLookup (.type T) "__getitem__" = pure (some (.builtin id)) ∧ s.TypeIs v T ∧ wpAny (model X.prog X.w) X.A (getItem v (.ref sl)) (EP X pins σ Q) X.xe s
theorem SlR.or {r r' : V → Option Int → Option Int → Hp → VK → Prop} (h : SlR X r) (h' : SlR X r') : SlR X (fun x lo hi H Q => r x lo hi H Q ∨ r' x lo hi H Q) := by
  intro pins s σ H x v vl vu lo hi sl Q I rx hs pl pu q
  rcases q with q | q
  · exact h pins s σ H x v vl vu lo hi sl Q I rx hs pl pu q
  · exact h' pins s σ H x v vl vu lo hi sl Q I rx hs pl pu q
def tSl (r : V → Option Int → Option Int → Hp → VK → Prop) (te : TE) (tl th : TO) : TE := fun σ H Q => te σ H fun x H1 => tl σ H1 fun l H2 => th σ H2 fun u H3 => r x l u H3 Q
theorem pe_slice {r : V → Option Int → Option Int → Hp → VK → Prop} (hr : SlR X r) (he : PE X e te) (hl : PO X lo tl) (hu : PO X hi th) : PE X (.Subscript e (.Slice lo hi none p2) pos) (tSl r te tl th) := by
  intro pins s σ H Q I h
  refine Subscript_ (thn (he pins s σ H _ I h) fun v s1 ⟨x, H1, I1, r1, q1⟩ => ?_)
  refine wpAny_Slice (thn (hl pins s1 σ H1 _ I1 q1) fun vl s2 ⟨l, H2, I2, pl, q2⟩ => thn (hu pins s2 σ H2 _ I2 q2) fun vu s3 ⟨u, H3, I3, pu, q3⟩ => ?_)
  rw [evalPart_none]
  refine wpAny_pure ?_
  have I4 : Inv X pins σ H3 { s3 with heap := s3.heap.push { cls := .type "slice", data := .fields #[vl, vu, .none] } } := I3.kept (t' := s3.toks) fun b ob q => Heap.get?_push_of_some _ q
  obtain ⟨T, id, hT, ht, hg⟩ := hr pins { s3 with heap := s3.heap.push { cls := .type "slice", data := .fields #[vl, vu, .none] } } σ H3 x v vl vu l u s3.heap.objs.size Q I4 r1 (Heap.IsSliceOf.new ..) pl pu q3
  show wpAny (model X.prog X.w) X.A (subscriptTail e (.Slice lo hi none p2) v (.ref s3.heap.objs.size)) (EP X pins σ Q) X.xe { s3 with heap := s3.heap.push { cls := .type "slice", data := .fields #[vl, vu, .none] } }
  exact tail_any (ops := [.ref s3.heap.objs.size, v]) ht hT hg (by with_unfolding_all rfl)
def cutV (xs : List V) (lo hi : Option Int) : List V := (xs.drop (HT.sIx xs.length 0 lo)).take (HT.sIx xs.length xs.length hi - HT.sIx xs.length 0 lo)
theorem cutV_length (xs : List V) (lo hi : Option Int) : (cutV xs lo hi).length ≤ xs.length := by
  unfold cutV
  rw [List.length_take, List.length_drop]
  omega
end
end L2
namespace L2
open PySem PySem.Spec PyProof.Rows
def ixN (n : Nat) (i : Int) : Option Nat := if 0 ≤ i then (if i < n then some i.toNat else none) else if -(n : Int) ≤ i then some (i + n).toNat else none
def atI {α : Type} (xs : List α) (i : Int) : Option α := (ixN xs.length i).bind fun j => xs[j]?
theorem ixN_seq {n : Nat} {i : Int} {j : Nat} (h : ixN n i = some j) : seqIndex? i n = some j ∧ j < n ∧ -(n : Int) ≤ i ∧ i < n := by
  unfold ixN at h
  by_cases h0 : 0 ≤ i
  · rw [if_pos h0] at h
    by_cases h1 : i < n
    · rw [if_pos h1] at h
      have e : i.toNat = j := Option.some.inj h
      exact ⟨by rw [seqIndex_of h0 h1, e], by omega, by omega, h1⟩
    · rw [if_neg h1] at h; cases h
  · rw [if_neg h0] at h
    by_cases h1 : -(n : Int) ≤ i
    · rw [if_pos h1] at h
      have e : (i + n).toNat = j := Option.some.inj h
      exact ⟨by rw [seqIndex_neg (by omega) h1, e], by omega, h1, by omega⟩
    · rw [if_neg h1] at h; cases h
theorem atI_get {α : Type} {xs : List α} {i : Int} {v : α} (h : atI xs i = some v) : ∃ j, seqIndex? i xs.length = some j ∧ xs[j]? = some v ∧ j < xs.length ∧ -(xs.length : Int) ≤ i ∧ i < xs.length := by
  unfold atI at h
  cases e : ixN xs.length i with
  | none => rw [e] at h; cases h
  | some j =>
    rw [e] at h
    obtain ⟨h1, h2, h3, h4⟩ := ixN_seq e
    exact ⟨j, h1, h, h2, h3, h4⟩
theorem atI_nat {α : Type} {xs : List α} {j : Nat} {v : α} (h : xs[j]? = some v) : atI xs (j : Int) = some v := by
  have hj : j < xs.length := (List.getElem?_eq_some_iff.mp h).1
  have e : ixN xs.length (j : Int) = some j := by
    unfold ixN
    rw [if_pos (by omega), if_pos (by omega)]; simp
  unfold atI; rw [e]; exact h
theorem atI_last {α : Type} (xs : List α) (v : α) : atI (xs ++ [v]) (-1) = some v := by
  have hl : (xs ++ [v]).length = xs.length + 1 := by simp
  have e : ixN (xs ++ [v]).length (-1) = some xs.length := by
    unfold ixN
    rw [hl, if_neg (by decide), if_pos (by omega)]
    congr 1
    omega
  unfold atI
  rw [e]
  show (xs ++ [v])[xs.length]? = some v
  simp
def PlainIx (b : Expr) : Prop := ∀ o i, subscripted b false o i = operate [o, i] (getItem o i)
def IxR (X : Cx) (r : R2) : Prop :=
  ∀ (value slice : Expr) (pins : List (Addr × Obj)) (s : Shared) (σ : St) (H : Hp) (x y : V) (v u : Value) (Q : VK), Inv X pins σ H s → RelV x v → RelV y u → r x y H Q →
    subscripted slice false v u = operate [v, u] (getItem v u) → wpAny (model X.prog X.w) X.A (subscriptTail value slice v u) (EP X pins σ Q) X.xe s
def MtR (X : Cx) (id : String) (r : V → List V → Hp → VK → Prop) : Prop :=
  ∀ (pins : List (Addr × Obj)) (s : Shared) (σ : St) (H : Hp) (x : V) (xs : List V) (v : Value) (us : List Value) (Q : VK), Inv X pins σ H s → RelV x v → Vals xs us → r x xs H Q →
    wpAny (model X.prog X.w) X.A (call (.builtin id) (v :: us)) (EP X pins σ Q) X.xe s
section
variable {X : Cx} {a b : Expr} {ta tb : TE} {pos : Pos}
theorem IxR.or {r r' : R2} (h : IxR X r) (h' : IxR X r') : IxR X (fun x y H Q => r x y H Q ∨ r' x y H Q) := by
  intro value slice pins s σ H x y v u Q I rx ry q hs
  rcases q with q | q
  · exact h value slice pins s σ H x y v u Q I rx ry q hs
  · exact h' value slice pins s σ H x y v u Q I rx ry q hs
theorem MtR.or {id : String} {r r' : V → List V → Hp → VK → Prop} (h : MtR X id r) (h' : MtR X id r') : MtR X id (fun x xs H Q => r x xs H Q ∨ r' x xs H Q) := by
  intro pins s σ H x xs v us Q I rx rs q
  rcases q with q | q
  · exact h pins s σ H x xs v us Q I rx rs q
  · exact h' pins s σ H x xs v us Q I rx rs q
theorem pe_ix {r : R2} (hr : IxR X r) (ha : PE X a ta) (hb : PE X b tb) (hs : PlainIx b) : PE X (.Subscript a b pos) (tOp r ta tb) := by
  intro pins s σ H Q I h
  exact Subscript_ (binT ha hb I h fun v u s2 x y H2 I2 rx ry q => hr a b pins s2 σ H2 x y v u Q I2 rx ry q (hs _ _))
def rIxL (K : PySem.W.Frag) : R2 := fun x y H Q => ∃ p xs i v, x = .ref p ∧ y = .int i ∧ SqL K H p xs ∧ atI xs i = some v ∧ Q v H
def rIxT (K : PySem.W.Frag) : R2 := fun x y H Q => ∃ p xs i v, x = .ref p ∧ y = .int i ∧ SqT K H p xs ∧ atI xs i = some v ∧ Q v H
def rIxS : R2 := fun x y H Q => ∃ z i c, x = .str z ∧ y = .int i ∧ z.length ≤ sizeLine ∧ atI z.cps.toList i = some c ∧ Q (.str ⟨#[c]⟩) H
theorem ix_list : IxR X (rIxL X.K) := by
  intro value slice pins s σ H x y v u Q I rx ry h hs
  obtain ⟨p, xs, i, z, rfl, rfl, hq, he, q⟩ := h
  cases rx
  obtain ⟨t, rfl⟩ := ry
  obtain ⟨its, r, pl, hz⟩ := I.list hq
  obtain ⟨j, h1, h2, h3, h4, h5⟩ := atI_get he
  obtain ⟨w, ew, rw'⟩ := r.get h2
  have hl := r.length
  have hn := line63
  have fin : EP X pins σ Q w s := ⟨z, H, I, rw', q⟩
  by_cases h0 : 0 ≤ i
  · have hj : i.toNat = j := by
      rw [seqIndex_of h0 h5] at h1
      exact Option.some.inj h1
    exact item_listR pl.isList h0 (by omega) (by rw [hj]; simpa using ew) fin hs
  · have hj : (i + (its.toArray.size : Int)).toNat = j := by
      rw [seqIndex_neg (by omega) h4] at h1
      rw [List.size_toArray, ← hl]
      exact Option.some.inj h1
    exact subscriptTail_builtinR (x := w) pl.isList.typeIs slot_list_getitem.lookup
      (wpAny_getItem_list_neg (Q := fun r s' => r = w ∧ EP X pins σ Q r s') pl.isList (by omega) (by rw [List.size_toArray] <;> omega) (by omega) (by rw [hj]; simpa using ew) ⟨rfl, fin⟩) hs
theorem ix_tup : IxR X (rIxT X.K) := by
  intro value slice pins s σ H x y v u Q I rx ry h hs
  obtain ⟨p, xs, i, z, rfl, rfl, hq, he, q⟩ := h
  cases rx
  obtain ⟨t, rfl⟩ := ry
  obtain ⟨its, r, pl, hz⟩ := I.tuple hq
  obtain ⟨j, h1, h2, h3, h4, h5⟩ := atI_get he
  obtain ⟨w, ew, rw'⟩ := r.get h2
  have hl := r.length
  have hn := line63
  have fin : EP X pins σ Q w s := ⟨z, H, I, rw', q⟩
  exact subscriptTail_builtinR (x := w) pl.typeIs slot_tuple_getitem.lookup
    (getItem_tuple (j := j) (Q := fun r s' => r = w ∧ EP X pins σ Q r s') pl (by omega) (by omega) (by rw [List.size_toArray, ← hl]; exact h1) (by simpa using ew) ⟨rfl, fin⟩) hs
theorem ix_str : IxR X rIxS := by
  intro value slice pins s σ H x y v u Q I rx ry h hs
  obtain ⟨z, i, c, rfl, rfl, hz, he, q⟩ := h
  obtain ⟨t, rfl⟩ := rx
  obtain ⟨t', rfl⟩ := ry
  obtain ⟨j, h1, h2, h3, h4, h5⟩ := atI_get he
  have hl : z.cps.toList.length = z.length := by simp [Str.length]
  rw [hl] at h1 h4 h5
  have hn := line63
  exact tail_any (typeIs_str s z t) slot_str_getitem.lookup (getItem_str (c := c) (by
    have e1 : decide (i < -(2 ^ 63 : Int)) = false := decide_eq_false (by omega)
    have e2 : decide (i ≥ 2 ^ 63) = false := decide_eq_false (by omega)
    rw [e1, e2, Bool.or_false]) (by rw [h1]; simpa using h2) ⟨.str ⟨#[c]⟩, H, I.tok _, ⟨_, rfl⟩, q⟩) hs
def rIx (K : PySem.W.Frag) : R2 := fun x y H Q => rIxL K x y H Q ∨ rIxT K x y H Q ∨ rIxS x y H Q
theorem ix_seq : IxR X (rIx X.K) := ix_list.or (ix_tup.or ix_str)
theorem mapSeq_set (its : List Value) (n j : Nat) (u : Value) : Obj.mapSeq (·.setIfInBounds j u) { cls := .type "list", data := .seq its.toArray n } = { cls := .type "list", data := .seq (its.set j u).toArray n } := by
  simp [Obj.mapSeq]
theorem Inv.lst {pins : List (Addr × Obj)} {σ : St} {H : Hp} {s : Shared} {p : Addr} {xs : List V} (I : Inv X pins σ H s) (h : H p = some (.lst xs)) :
    ∃ (its : List Value) (n : Nat), Vals xs its ∧ s.heap.get? p = some { cls := .type "list", data := .seq its.toArray n } ∧ xs.length ≤ sizeLine := by
  obtain ⟨z, its, n, r, e⟩ := I.hok p _ h
  exact ⟨its, n, r, e, z⟩
theorem Inv.lstUpd {pins : List (Addr × Obj)} {σ : St} {H : Hp} {s : Shared} {p : Addr} {xs ys : List V} {its its' : List Value} {n n' : Nat} {f : Obj → Obj} (I : Inv X pins σ H s) (h : H p = some (.lst xs))
    (ho : s.heap.get? p = some { cls := .type "list", data := .seq its.toArray n }) (hf : f { cls := .type "list", data := .seq its.toArray n } = { cls := .type "list", data := .seq its'.toArray n' }) (r : Vals ys its') (hz : ys.length ≤ sizeLine) (t : Nat) :
    Inv X pins σ (upd H p (.lst ys)) { s with heap := s.heap.update p f, toks := t } := by
  have e : (s.heap.update p f).get? p = some { cls := .type "list", data := .seq its'.toArray n' } := by
    rw [Heap.get?_update_self f ho (by rw [hf] <;> rfl), hf]
  refine I.write (x := p) (e := p) (by rw [h]; trivial) (.inl rfl) (fun b u hb q => (Heap.get?_update_other _ _ (Ne.symm hb)).trans q) ⟨_, e⟩ ?_
  exact ⟨hz, its', n', r, e⟩
def rSetL : V → V → V → Hp → (Hp → Prop) → Prop := fun o i v H Q => ∃ p xs k j, o = .ref p ∧ i = .int k ∧ H p = some (.lst xs) ∧ ixN xs.length k = some j ∧ Q (upd H p (.lst (xs.set j v)))
theorem set_list : PSet X rSetL := by
  intro pins s σ H o i v ov iv u Q I ro ri rv h
  obtain ⟨p, xs, k, j, rfl, rfl, hp, hj, q⟩ := h
  cases ro
  obtain ⟨t, rfl⟩ := ri
  obtain ⟨its, n, r, ho, hz⟩ := I.lst hp
  obtain ⟨h1, h2, h3, h4⟩ := ixN_seq hj
  have hl := r.length
  have hn := line63
  have I' : Inv X pins σ (upd H p (.lst (xs.set j v))) { s with heap := s.heap.update p (Obj.mapSeq (·.setIfInBounds j u)) } :=
    I.lstUpd hp ho (mapSeq_set its n j u) (r.set rv j) (by rw [List.length_set]; exact hz) s.toks
  by_cases h0 : 0 ≤ k
  · have hk : k.toNat = j := by
      rw [seqIndex_of h0 h4] at h1
      exact Option.some.inj h1
    exact PySem.W.ki_setAt ho h0 (by omega) (by rw [List.size_toArray, ← hl]; exact h4) (by rw [hk]; exact ⟨_, I', q⟩)
  · have hk : (k + (its.toArray.size : Int)).toNat = j := by
      rw [seqIndex_neg (by omega) h3] at h1
      rw [List.size_toArray, ← hl]
      exact Option.some.inj h1
    exact PySem.W.ki_setBack ho (by omega) (by rw [List.size_toArray, ← hl]; exact h3) (by omega) (by rw [hk]; exact ⟨_, I', q⟩)
theorem slice_bounds (lo hi : Option Int) (n : Nat) : (sliceBounds lo hi none n).1 = ((HT.sIx n 0 lo : Nat) : Int) ∧ (sliceBounds lo hi none n).2.1 = ((HT.sIx n n hi : Nat) : Int) ∧ (sliceBounds lo hi none n).2.2 = 1 := by
  refine ⟨?_, ?_, rfl⟩
  · cases lo with
    | none => simp [sliceBounds, HT.sIx]
    | some i =>
      simp only [sliceBounds, HT.sIx, Option.getD_none, show (1 : Int) > 0 by decide, if_true]
      by_cases h : i < 0
      · simp only [h, if_true] <;> omega
      · simp only [h, if_false] <;> omega
  · cases hi with
    | none => simp [sliceBounds, HT.sIx]
    | some i =>
      simp only [sliceBounds, HT.sIx, Option.getD_none, show (1 : Int) > 0 by decide, if_true]
      by_cases h : i < 0
      · simp only [h, if_true] <;> omega
      · simp only [h, if_false] <;> omega
theorem slicePick_cut (its : List Value) (lo hi : Option Int) : slicePick its.toArray lo hi none = ((its.drop (HT.sIx its.length 0 lo)).take (HT.sIx its.length its.length hi - HT.sIx its.length 0 lo)).toArray := by
  obtain ⟨h1, h2, h3⟩ := slice_bounds lo hi its.toArray.size
  unfold slicePick
  rw [h1, h2, h3]
  simp only [sliceRange_one, pick_run, List.size_toArray] <;> rfl
def rSlL (K : PySem.W.Frag) : V → Option Int → Option Int → Hp → VK → Prop := fun x lo hi H Q => ∃ a xs, x = .ref a ∧ SqL K H a xs ∧ ∀ p, H p = none → Q (.ref p) (upd H p (.lst (cutV xs lo hi)))
theorem sl_list : SlR X (rSlL X.K) := by
  intro pins s σ H x v vl vu lo hi sl Q I rx hs pl pu h
  obtain ⟨a, xs, rfl, hx, q⟩ := h
  cases rx
  obtain ⟨its, r, ht, hz⟩ := I.list hx
  have hlen := r.length
  refine ⟨"list", _, slot_list_getitem.lookup, ht.isList.typeIs, ?_⟩
  refine wpAny_getItem_list_slice ht.isList hs pl pu .none (by simp) ?_ (by rw [List.size_toArray] <;> omega)
  rw [slicePick_cut, ← hlen]
  refine ⟨.ref s.heap.objs.size, _, I.laid (t' := s.toks) (o := .lst (cutV xs lo hi)) (fun b ob q => Heap.get?_push_of_some _ q) (Nat.le_refl _) ?_, rfl, q _ (I.hok.fresh (Nat.le_refl _))⟩
  exact ⟨Nat.le_trans (cutV_length xs lo hi) hz, _, 0, (r.drop (HT.sIx xs.length 0 lo)).take (HT.sIx xs.length xs.length hi - HT.sIx xs.length 0 lo), Heap.get?_push_size _ rfl⟩
def flatV : V → Bool
  | .non => true
  | .bl _ => true
  | .int _ => true
  | .str _ => true
  | _ => false
def eqV : V → V → Bool
  | .non, .non => true
  | .bl a, .bl b => a == b
  | .bl a, .int b => (if a then 1 else 0) == b
  | .int a, .bl b => a == (if b then 1 else 0)
  | .int a, .int b => a == b
  | .str a, .str b => a == b
  | _, _ => false
theorem eqAt_V {A : Around} {s : Shared} {y x : V} {u v : Value} (ry : RelV y u) (rx : RelV x v) (fy : flatV y = true) (fx : flatV x = true) : SeqAt.EqAt A s u v (eqV y x) := by
  cases y with
  | non =>
    cases ry
    cases x with
    | non => cases rx; exact SeqAt.EqAt.same _
    | bl b => cases rx; exact SeqAt.EqAt.none_bool b
    | int b => obtain ⟨t, rfl⟩ := rx; exact SeqAt.EqAt.none_int b t
    | str b => obtain ⟨t, rfl⟩ := rx; exact SeqAt.EqAt.none_str b t
    | _ => exact absurd (show false = true from fx) Bool.false_ne_true
  | bl a =>
    cases ry
    cases x with
    | non => cases rx; exact SeqAt.EqAt.bool_none a
    | bl b => cases rx; exact SeqAt.EqAt.bool_bool a b
    | int b => obtain ⟨t, rfl⟩ := rx; exact SeqAt.EqAt.bool_int a b t
    | str b => obtain ⟨t, rfl⟩ := rx; exact SeqAt.EqAt.bool_str a b t
    | _ => exact absurd (show false = true from fx) Bool.false_ne_true
  | int a =>
    obtain ⟨t', rfl⟩ := ry
    cases x with
    | non => cases rx; exact SeqAt.EqAt.int_none a t'
    | bl b => cases rx; exact SeqAt.EqAt.int_bool a t' b
    | int b => obtain ⟨t, rfl⟩ := rx; exact SeqAt.EqAt.int_int a t' b t
    | str b => obtain ⟨t, rfl⟩ := rx; exact SeqAt.EqAt.int_str a t' b t
    | _ => exact absurd (show false = true from fx) Bool.false_ne_true
  | str a =>
    obtain ⟨t', rfl⟩ := ry
    cases x with
    | non => cases rx; exact SeqAt.EqAt.str_none a t'
    | bl b => cases rx; exact SeqAt.EqAt.str_bool a t' b
    | int b => obtain ⟨t, rfl⟩ := rx; exact SeqAt.EqAt.str_int a t' b t
    | str b => obtain ⟨t, rfl⟩ := rx; exact SeqAt.EqAt.str_str a t' b t
    | _ => exact absurd (show false = true from fx) Bool.false_ne_true
  | _ => exact absurd (show false = true from fy) Bool.false_ne_true
def eqU (x : V) (u : Value) : Bool := match u with
  | .none => eqV .non x
  | .bool b => eqV (.bl b) x
  | .int i _ => eqV (.int i) x
  | .str z _ => eqV (.str z) x
  | _ => false
theorem eqU_of {x y : V} {u : Value} (r : RelV y u) (f : flatV y = true) : eqU x u = eqV y x := by
  cases y with
  | non => cases r; rfl
  | bl b => cases r; rfl
  | int i => obtain ⟨t, rfl⟩ := r; rfl
  | str z => obtain ⟨t, rfl⟩ := r; rfl
  | _ => exact absurd (show false = true from f) Bool.false_ne_true
theorem any_eqU {x : V} : ∀ {xs : List V} {us : List Value}, Vals xs us → xs.all flatV = true → us.any (eqU x) = xs.any fun y => eqV y x
  | _, _, .nil, _ => rfl
  | y :: xs, u :: us, .cons r t, f => by
    rw [List.all_cons, Bool.and_eq_true] at f
    rw [List.any_cons, List.any_cons, eqU_of r f.1, any_eqU t f.2]
theorem mem_eqAt {A : Around} {s : Shared} {x : V} {v : Value} (rx : RelV x v) (fx : flatV x = true) : ∀ {xs : List V} {us : List Value}, Vals xs us → xs.all flatV = true → ∀ u ∈ us, SeqAt.EqAt A s u v (eqU x u)
  | _, _, .nil, _ => fun u hu => by cases hu
  | y :: xs, u :: us, .cons r t, f => fun u' hu => by
    rw [List.all_cons, Bool.and_eq_true] at f
    rcases List.mem_cons.mp hu with rfl | hu
    · rw [eqU_of r f.1]; exact eqAt_V r rx f.1 fx
    · exact mem_eqAt rx fx t f.2 u' hu
def inV (x : V) (xs : List V) : Bool := xs.any fun y => eqV y x
def rIn (K : PySem.W.Frag) (neg : Bool) : R2 := fun x y H Q => ∃ p xs, y = .ref p ∧ (SqL K H p xs ∨ SqT K H p xs) ∧ flatV x = true ∧ xs.all flatV = true ∧ Q (.bl (if neg then !inV x xs else inV x xs)) H
theorem op_in_seq : OpR X (compareOp .In) (rIn X.K false) := by
  intro pins s σ H x y v u Q I rx ry h
  obtain ⟨p, xs, rfl, hq, fx, fs, q⟩ := h
  cases ry
  rcases hq with hq | hq
  · obtain ⟨its, r, pl, hz⟩ := I.list hq
    refine SeqAt.in_listAt (eqU x) pl.isList (fun w hw => mem_eqAt rx fx r fs w (by simpa using hw)) ⟨.bl _, H, I, rfl, ?_⟩
    rw [show its.toArray.any (eqU x) = its.any (eqU x) by simp, any_eqU r fs]
    exact q
  · obtain ⟨its, r, pl, hz⟩ := I.tuple hq
    refine SeqAt.in_tupleAt (eqU x) pl (fun w hw => mem_eqAt rx fx r fs w (by simpa using hw)) ⟨.bl _, H, I, rfl, ?_⟩
    rw [show its.toArray.any (eqU x) = its.any (eqU x) by simp, any_eqU r fs]
    exact q
theorem op_notIn_seq : OpR X (compareOp .NotIn) (rIn X.K true) := by
  intro pins s σ H x y v u Q I rx ry h
  obtain ⟨p, xs, rfl, hq, fx, fs, q⟩ := h
  cases ry
  rcases hq with hq | hq
  · obtain ⟨its, r, pl, hz⟩ := I.list hq
    refine SeqAt.notIn_listAt (eqU x) pl.isList (fun w hw => mem_eqAt rx fx r fs w (by simpa using hw)) ⟨.bl _, H, I, rfl, ?_⟩
    rw [show its.toArray.any (eqU x) = its.any (eqU x) by simp, any_eqU r fs]
    exact q
  · obtain ⟨its, r, pl, hz⟩ := I.tuple hq
    refine SeqAt.notIn_tupleAt (eqU x) pl (fun w hw => mem_eqAt rx fx r fs w (by simpa using hw)) ⟨.bl _, H, I, rfl, ?_⟩
    rw [show its.toArray.any (eqU x) = its.any (eqU x) by simp, any_eqU r fs]
    exact q
theorem CallR.or {f : Value} {r r' : List V → Hp → VK → Prop} (h : CallR X f r) (h' : CallR X f r') : CallR X f (fun xs H Q => r xs H Q ∨ r' xs H Q) := by
  intro pins s σ H xs us Q I rs q
  rcases q with q | q
  · exact h pins s σ H xs us Q I rs q
  · exact h' pins s σ H xs us Q I rs q
def tyV (K : PySem.W.Frag) (T : String) (x : V) (H : Hp) : Prop := match x with
  | .str _ => T = "str"
  | .int _ => T = "int"
  | .ref p => (T = "list" ∧ ∃ xs, SqL K H p xs) ∨ (T = "tuple" ∧ ∃ o, K.lookup p = some o ∧ o.cls = .type "tuple" ∧ o.dict = none) ∨
      (T = "dict" ∧ ((∃ kvs, H p = some (.dK kvs)) ∨ ∃ kvs, H p = some (.dT kvs))) ∨ (T = "set" ∧ ∃ S n, H p = some (.set S n))
  | _ => False
theorem tyV_is {pins : List (Addr × Obj)} {σ : St} {H : Hp} {s : Shared} {T : String} {x : V} {v : Value} (I : Inv X pins σ H s) (r : RelV x v) (ty : tyV X.K T x H) :
    s.TypeIs v T ∧ ∀ a, v = .ref a → ∃ ob, s.heap.get? a = some ob ∧ ob.dict = none := by
  cases x with
  | str z =>
    obtain ⟨t, rfl⟩ := r
    cases (show T = "str" from ty)
    exact ⟨typeIs_str s z t, fun _ e => nomatch e⟩
  | int i =>
    obtain ⟨t, rfl⟩ := r
    cases (show T = "int" from ty)
    exact ⟨typeIs_int s i t, fun _ e => nomatch e⟩
  | ref p =>
    cases r
    rcases ty with ⟨rfl, xs, hq⟩ | ⟨rfl, o, hk, hc, hd⟩ | ⟨rfl, hk⟩ | ⟨rfl, S, n, hk⟩
    · obtain ⟨its, _, pl, _⟩ := I.list hq
      refine ⟨pl.isList.typeIs, fun a e => ?_⟩
      cases e
      obtain ⟨o, n, e, c, hd, _⟩ := pl
      exact ⟨o, e, hd⟩
    · refine ⟨⟨o, I.kIn p o hk, hc⟩, fun a e => ?_⟩
      cases e
      exact ⟨o, I.kIn _ o hk, hd⟩
    · have z : ∃ o, s.heap.get? p = some o ∧ o.ExactDict := by
        rcases hk with ⟨kvs, hk⟩ | ⟨kvs, hk⟩
        · obtain ⟨_, _, _, _, o, _, _, e, ex, _⟩ := I.hok p _ hk
          exact ⟨o, e, ex⟩
        · obtain ⟨_, _, _, _, o, _, _, e, ex, _⟩ := I.hok p _ hk
          exact ⟨o, e, ex⟩
      obtain ⟨o, e, ex⟩ := z
      refine ⟨⟨o, e, ex.1⟩, fun a e2 => ?_⟩
      cases e2
      exact ⟨o, e, ex.2.1⟩
    · obtain ⟨o, _, _, _, e, ex, _⟩ := I.hok p _ hk
      refine ⟨⟨o, e, ex.1⟩, fun a e2 => ?_⟩
      cases e2
      exact ⟨o, e, ex.2.1⟩
  | _ => exact False.elim ty
def tBM0 (K : PySem.W.Frag) (T : String) (r : V → List V → Hp → VK → Prop) (to : TE) : TE := fun σ H Q => to σ H fun x H1 => tyV K T x H1 ∧ r x [] H1 Q
def tBM (K : PySem.W.Frag) (T : String) (r : V → List V → Hp → VK → Prop) (to : TE) (t : TA) : TE := fun σ H Q => to σ H fun x H1 => tyV K T x H1 ∧ t σ H1 fun xs H2 => r x xs H2 Q
variable {o e : Expr} {es : List Expr} {to : TE} {t : TA} {name : Str} {apos cpos : Pos} {T id : String} {r : V → List V → Hp → VK → Prop}
theorem pe_bm0 (pa : PlainAttrs T) (slot : Slot T name id) (hty : typeOf (.builtin id) = pure (.type "method_descriptor")) (hm : MtR X id r) (ho : PE X o to)
    (hbase : attributeBase o name X.env (eval o X.env) = eval o X.env := by rfl) (hline : (apos.endLine == cpos.line) = true := by rfl) : PE X (.Call (.Attribute o name apos) [] [] cpos) (tBM0 X.K T r to) := by
  intro pins s σ H Q I h
  refine wpAny_Call_method0_late hbase hline (thn (ho pins s σ H _ I h) fun v s1 ⟨x, H1, I1, r1, ty, q1⟩ => ?_)
  obtain ⟨h1, h2⟩ := tyV_is I1 r1 ty
  exact ⟨T, id, pa, slot, hty, h1, h2, Calls.callWith_builtin rfl (PySem.evalArgs_none (hm pins s1 σ H1 x [] v [] Q I1 r1 .nil q1))⟩
theorem pe_bm (pa : PlainAttrs T) (slot : Slot T name id) (hty : typeOf (.builtin id) = pure (.type "method_descriptor")) (hm : MtR X id r) (ho : PE X o to) (ha : PA X (e :: es) t)
    (hbase : attributeBase o name X.env (eval o X.env) = eval o X.env := by rfl)
    (hfew : ((backTo cpos (starEach (e :: es) X.env)).all (fun x => !x.1) && (backToKw cpos (keywordEach [] X.env)).all (fun x => x.1.isSome)
      && decide ((e :: es).length + ([] : List Keyword).length + (if ([] : List Keyword).isEmpty then 0 else 1) < 30)) = true := by rfl)
    (hline : (apos.endLine == cpos.line) = true := by rfl) (hs : starEach (e :: es) X.env = (false, eval e X.env) :: starEach es X.env := by rfl) (hplain : (backTo cpos (starEach es X.env)).any (·.1) = false := by rfl) :
    PE X (.Call (.Attribute o name apos) (e :: es) [] cpos) (tBM X.K T r to t) := by
  intro pins s σ H Q I h
  refine wpAny_Call_method_late hbase hfew hline rfl (thn (ho pins s σ H _ I h) fun v s1 ⟨x, H1, I1, r1, ty, q1⟩ => ?_)
  obtain ⟨h1, h2⟩ := tyV_is I1 r1 ty
  refine ⟨T, id, pa, slot, hty, h1, h2, ?_⟩
  have hA := ha cpos pins s1 σ H1 _ I1 q1
  rw [hs] at hA ⊢
  refine Calls.callWith_builtin (by show (false || (backTo cpos (starEach es X.env)).any (·.1)) = false; rw [hplain] <;> rfl) (Calls.evalArgs_plain ?_)
  exact thn hA fun us s2 ⟨vs, H2, I2, r2, q2⟩ => hm pins s2 σ H2 x vs v us Q I2 r1 r2 q2
/- xs.append(e), list.index on a module's tuple .. are MtR facts of 06m -/
end
end L2
namespace L2
open PySem PySem.Spec PyProof.Rows
theorem Vals.one : ∀ {x : V} {us : List Value}, Vals [x] us → ∃ u, us = [u] ∧ RelV x u
  | _, _, .cons r .nil => ⟨_, rfl, r⟩
theorem Vals.two : ∀ {x y : V} {us : List Value}, Vals [x, y] us → ∃ u v, us = [u, v] ∧ RelV x u ∧ RelV y v
  | _, _, _, .cons r (.cons q .nil) => ⟨_, _, rfl, r, q⟩
theorem Vals.zero : ∀ {us : List Value}, Vals [] us → us = []
  | _, .nil => rfl
theorem Vals.reverse {xs : List V} {us : List Value} (h : Vals xs us) : Vals xs.reverse us.reverse := by
  induction h with
  | nil => exact .nil
  | cons r t ih => rw [List.reverse_cons, List.reverse_cons]; exact Vals.append ih (.cons r .nil)
section
variable {X : Cx} {pins : List (Addr × Obj)} {σ : St} {H : Hp} {s : Shared} {l b : Addr} {xs ys zs : List V}
theorem Inv.lnew {its : List Value} {t' : Nat} (I : Inv X pins σ H s) (hv : Vals ys its) (hz : ys.length ≤ sizeLine) :
    Inv X pins σ (upd H s.heap.objs.size (.lst ys)) { s with heap := s.heap.push { cls := .type "list", data := .seq its.toArray }, toks := t' } :=
  I.laid (fun _ _ q => Heap.get?_push_of_some _ q) (Nat.le_refl _) ⟨hz, its, 0, hv, Heap.get?_push_size _ rfl⟩
theorem Inv.fresh (I : Inv X pins σ H s) : H s.heap.objs.size = none := I.hok.fresh (Nat.le_refl _)
end
section
variable {X : Cx}
end
section
variable {prog : Program} {w : World} {A : Around} {E : Value → Shared → Prop} {s : Shared}
end
section
variable {X : Cx}
end
end L2
namespace L2
open PySem PySem.Spec PyProof.Rows
theorem Vals.ints : ∀ {ns : List Int} {us : List Value}, Vals (ns.map V.int) us → IntsAre us ns
  | [], us, h => by
    rw [List.map_nil] at h
    cases h
    exact IntsAre.nil
  | n :: ns, us, h => by
    rw [List.map_cons] at h
    cases h with
    | cons r t =>
      obtain ⟨k, rfl⟩ := r
      exact IntsAre.cons n k (Vals.ints t)
theorem Vals.ref1 {a : Addr} {us : List Value} (r : Vals [V.ref a] us) : us = [Value.ref a] := by
  cases r with
  | cons r t =>
    cases t
    cases r
    rfl
section
variable {prog : Program} {w : World} {A : Around} {E : Value → Shared → Prop} {s : Shared} {l : Addr} {its : List Value} {ns : List Int} {Q : Value → Shared → Prop}
theorem sum_raw (hh : A.handled = none) (hl : s.heap.IsList l its.toArray) (hi : IntsAre its ns)
    (h : ∀ h' tk t', (∀ b o, s.heap.get? b = some o → h'.get? b = some o) → Q (.int ns.sum t') { s with heap := h', toks := tk }) : wpAny (model prog w) A (call (.builtin "sum") [.ref l]) Q E s := by
  obtain ⟨xs, e⟩ := hi.allInts.items
  have hn : numsOf (intItems xs).toList = ns := by rw [← e]; exact hi.numsOf
  rw [nums_intItems] at hn
  rw [e] at hl
  refine PySem.sum_intListG hh hl fun h' tk t' hk => ?_
  have := h h' tk t' hk
  rw [preSum_eq, List.take_of_length_le (by simp), hn]; exact this
end
section
variable {X : Cx}
def rSum (K : PySem.W.Frag) : List V → Hp → VK → Prop := fun vs H Q => ∃ (a : Addr) (ns : List Int), vs = [V.ref a] ∧ SqL K H a (ns.map V.int) ∧ Q (.int ns.sum) H
theorem cr_sum (hc : X.calm = true) : CallR X (.builtin "sum") (rSum X.K) := by
  intro pins s σ H vs us Q I r h
  obtain ⟨a, ns, rfl, hs, q⟩ := h
  obtain ⟨its, rv, hl, _⟩ := I.list hs
  rw [Vals.ref1 r]
  exact sum_raw (I.ok.hd hc) hl.isList rv.ints fun h' tk t' hk => ⟨.int _, H, I.kept hk, ⟨_, rfl⟩, q⟩
end
section
variable {X : Cx}
theorem flat_at {ys : List V} (f : ys.all flatV = true) {j : Nat} {z : V} (h : ys[j]? = some z) : flatV z = true := List.all_eq_true.mp f z (List.mem_of_getElem? h)
end
section
variable {X : Cx}
end
section
variable {X : Cx}
end
mutual
inductive Dp (K : PySem.W.Frag) (H : Hp) : V → PyData → Prop
  | non : Dp K H .non .none
  | bl (b : Bool) : Dp K H (.bl b) (.bool b)
  | int (i : Int) : Dp K H (.int i) (.int i)
  | str (x : Str) : Dp K H (.str x) (.str x)
  | lst {a : Addr} {xs : List V} {ds : List PyData} : SqL K H a xs → DpAll K H xs ds → Dp K H (.ref a) (.list ds)
  | tup {a : Addr} {xs : List V} {ds : List PyData} : SqT K H a xs → DpAll K H xs ds → Dp K H (.ref a) (.tuple ds)
inductive DpAll (K : PySem.W.Frag) (H : Hp) : List V → List PyData → Prop
  | nil : DpAll K H [] []
  | cons {v : V} {vs : List V} {d : PyData} {ds : List PyData} : Dp K H v d → DpAll K H vs ds → DpAll K H (v :: vs) (d :: ds)
end
section
variable {X : Cx} {pins : List (Addr × Obj)} {σ : St} {H : Hp} {s : Shared}
mutual
theorem Dp.reads (I : Inv X pins σ H s) : ∀ (d : PyData) (v : V) (u : Value), Dp X.K H v d → RelV v u → ∃ as, Reads s.heap u d as
  | .none, _, _, h, r => by
    cases h
    cases r
    exact ⟨_, Reads.none⟩
  | .bool b, _, _, h, r => by
    cases h
    cases r
    exact ⟨_, Reads.bool b⟩
  | .int i, _, _, h, r => by
    cases h
    obtain ⟨t, rfl⟩ := r
    exact ⟨_, Reads.int i t⟩
  | .str x, _, _, h, r => by
    cases h
    obtain ⟨t, rfl⟩ := r
    exact ⟨_, Reads.str x t⟩
  | .list ds, _, _, h, r => by
    cases h with
    | lst hs ha =>
      cases r
      obtain ⟨its, rv, ⟨o, n, ho, hc, _, hd⟩, _⟩ := I.list hs
      obtain ⟨as, hr⟩ := Dp.readsAll I ds _ its ha rv
      exact ⟨_, Reads.list ho hc hd hr⟩
  | .tuple ds, _, _, h, r => by
    cases h with
    | tup hs ha =>
      cases r
      obtain ⟨its, rv, ⟨o, ho, hc, n, hd⟩, _⟩ := I.tuple hs
      obtain ⟨as, hr⟩ := Dp.readsAll I ds _ its ha rv
      exact ⟨_, Reads.tuple ho hc hd hr⟩
  | .dict _, _, _, h, _ => by cases h
theorem Dp.readsAll (I : Inv X pins σ H s) : ∀ (ds : List PyData) (vs : List V) (us : List Value), DpAll X.K H vs ds → Vals vs us → ∃ as, ReadsAll s.heap us ds as
  | [], _, _, h, r => by
    cases h
    cases r
    exact ⟨_, ReadsAll.nil⟩
  | d :: ds, _, _, h, r => by
    cases h with
    | cons h1 h2 =>
      cases r with
      | cons r1 r2 =>
        obtain ⟨as, q1⟩ := Dp.reads I d _ _ h1 r1
        obtain ⟨bs, q2⟩ := Dp.readsAll I ds _ _ h2 r2
        exact ⟨_, ReadsAll.cons q1 q2⟩
end
end
section
variable {X : Cx}
def rEqD (K : PySem.W.Frag) : R2 := fun x y H Q => ∃ d e, Dp K H x d ∧ Dp K H y e ∧ SeqAt.shaped d = true ∧ SeqAt.shaped e = true ∧ Q (.bl (PyData.eqv d e)) H
def rNeD (K : PySem.W.Frag) : R2 := fun x y H Q => ∃ d e, Dp K H x d ∧ Dp K H y e ∧ SeqAt.shaped d = true ∧ SeqAt.shaped e = true ∧ Q (.bl (!PyData.eqv d e)) H
theorem op_eqD (hu : X.A.units + 64 < cLine) : OpR X (compareOp .Eq) (rEqD X.K) := by
  intro pins s σ H x y v u Q I rx ry h
  obtain ⟨d, e, hd, he, sd, se, q⟩ := h
  obtain ⟨as, r1⟩ := Dp.reads I d x v hd rx
  obtain ⟨bs, r2⟩ := Dp.reads I e y u he ry
  exact SeqAt.compareEq_shaped r1 r2 sd se hu ⟨.bl _, H, I, rfl, q⟩
theorem op_neD (hu : X.A.units + 64 < cLine) : OpR X (compareOp .NotEq) (rNeD X.K) := by
  intro pins s σ H x y v u Q I rx ry h
  obtain ⟨d, e, hd, he, sd, se, q⟩ := h
  obtain ⟨as, r1⟩ := Dp.reads I d x v hd rx
  obtain ⟨bs, r2⟩ := Dp.reads I e y u he ry
  exact SeqAt.compareNe_shaped r1 r2 sd se hu ⟨.bl _, H, I, rfl, q⟩
end
end L2
namespace L2
open PySem PySem.Spec PyProof.Rows
abbrev CellAt (h : Heap) (c : Addr) (v : Option Value) : Prop := h.IsCell c v
def relS (scope sc : Scope) : Scope :=
  { scope with names := scope.names.map fun (n, k) => if (k == .free && sc.kind == .function && sc.names.lookup n == some .cell) then (n, .cell) else (n, k) }
def cloFrom (cells : List (Str × Addr)) : List (Str × NameKind) → List (Str × Addr) → List (Str × Addr)
  | [], acc => acc
  | (n, k) :: r, acc => if k == .free then cloFrom cells r ((n, (cells.lookup n).getD 0) :: acc) else cloFrom cells r acc
theorem closure_loop (env : Env) (f : Str × NameKind → List (Str × Addr) → Sem (ForInStep (List (Str × Addr))))
    (hf : ∀ n k c, f (n, k) c = if k == .free then (do let a ← cellOf env n; pure (.yield ((n, a) :: c))) else pure (.yield c)) :
    ∀ (names : List (Str × NameKind)) (acc : List (Str × Addr)), (∀ y ∈ names, y.2 = .free → ∃ c, env.cells.lookup y.1 = some c) → forIn names acc f = pure (cloFrom env.cells names acc)
  | [], acc, _ => by rw [List.forIn_nil]; rfl
  | (n, k) :: r, acc, h => by
    rw [List.forIn_cons, hf]
    have ih := fun acc => closure_loop env f hf r acc fun y hy => h y (List.mem_cons_of_mem _ hy)
    unfold cloFrom
    by_cases hk : (k == NameKind.free) = true
    · rw [if_pos hk, if_pos hk]
      obtain ⟨c, hc⟩ := h (n, k) List.mem_cons_self (by simpa using hk)
      have e : cellOf env n = pure c := by unfold cellOf; rw [hc]
      rw [e]
      have e2 : (env.cells.lookup n).getD 0 = c := by rw [hc]; rfl
      rw [e2]
      exact ih _
    · rw [if_neg hk, if_neg hk]
      exact ih _
theorem closure_ok {scope : Scope} {env : Env} (h : ∀ y ∈ scope.names, y.2 = .free → ∃ c, env.cells.lookup y.1 = some c) : closureFor scope env = pure (cloFrom env.cells scope.names []) := by
  simp only [closureFor]
  rw [closure_loop env _ (fun n k c => rfl) scope.names [] h]
  rfl
theorem mem_lookup {α : Type} : ∀ {l : List (Str × α)} {n : Str} {c : α}, (n, c) ∈ l → ∃ c', l.lookup n = some c'
  | (k, v) :: r, n, c, h => by
    rw [List.lookup_cons]
    cases hb : n == k with
    | true => exact ⟨_, rfl⟩
    | false =>
      rcases List.mem_cons.mp h with e | h
      · cases e; simp at hb
      · exact mem_lookup h
theorem cloFrom_mem {cells : List (Str × Addr)} : ∀ {names : List (Str × NameKind)} {acc : List (Str × Addr)} {n : Str} {c : Addr}, (n, c) ∈ cloFrom cells names acc → (n, c) ∈ acc ∨ ((n, .free) ∈ names ∧ c = (cells.lookup n).getD 0)
  | [], _, _, _, h => .inl h
  | (m, k) :: r, acc, n, c, h => by
    unfold cloFrom at h
    split at h
    · rename_i hk
      have hk : k = .free := by simpa using hk
      rcases cloFrom_mem h with h | ⟨h1, h2⟩
      · rcases List.mem_cons.mp h with e | h
        · cases e; exact .inr ⟨hk ▸ List.mem_cons_self, rfl⟩
        · exact .inl h
      · exact .inr ⟨List.mem_cons_of_mem _ h1, h2⟩
    · rcases cloFrom_mem h with h | ⟨h1, h2⟩
      · exact .inl h
      · exact .inr ⟨List.mem_cons_of_mem _ h1, h2⟩
theorem cloFrom_acc {cells : List (Str × Addr)} : ∀ {names : List (Str × NameKind)} {acc : List (Str × Addr)} {p : Str × Addr}, p ∈ acc → p ∈ cloFrom cells names acc
  | [], _, _, h => h
  | (m, k) :: r, acc, p, h => by
    unfold cloFrom
    split
    · exact cloFrom_acc (List.mem_cons_of_mem _ h)
    · exact cloFrom_acc h
theorem cloFrom_has {cells : List (Str × Addr)} : ∀ {names : List (Str × NameKind)} {acc : List (Str × Addr)} {n : Str}, (n, .free) ∈ names → (n, (cells.lookup n).getD 0) ∈ cloFrom cells names acc
  | (m, k) :: r, acc, n, h => by
    unfold cloFrom
    rcases List.mem_cons.mp h with e | h
    · cases e
      exact cloFrom_acc List.mem_cons_self
    · split
      · exact cloFrom_has h
      · exact cloFrom_has h
theorem cells_mem : ∀ {names : List (Str × NameKind)} {h : Heap} {acc : List (Str × Addr)} {x : Str} {c : Addr}, (x, c) ∈ cellsFrom h.objs.size names acc →
    (x, c) ∈ acc ∨ ((x, .cell) ∈ names ∧ h.objs.size ≤ c ∧ CellAt (pushCells h names) c none)
  | [], _, _, _, _, h => .inl h
  | (n, k) :: r, h, acc, x, c, hm => by
    unfold cellsFrom at hm
    unfold pushCells
    split at hm
    · rename_i hk
      rw [if_pos hk]
      have hk : k = .cell := by simpa using hk
      rw [← Heap.size_push h { cls := .type "cell", data := .cell none }] at hm
      rcases cells_mem hm with hm | ⟨h1, h2, h3⟩
      · rcases List.mem_cons.mp hm with e | hm
        · cases e
          exact .inr ⟨hk ▸ List.mem_cons_self, Nat.le_refl _, _, pushCells_keeps r _ _ _ (Heap.get?_push_size _ rfl), rfl⟩
        · exact .inl hm
      · rw [Heap.size_push] at h2
        exact .inr ⟨List.mem_cons_of_mem _ h1, Nat.le_of_succ_le h2, h3⟩
    · rename_i hk
      rw [if_neg hk]
      rcases cells_mem hm with hm | ⟨h1, h2, h3⟩
      · exact .inl hm
      · exact .inr ⟨List.mem_cons_of_mem _ h1, h2, h3⟩
theorem cells_acc : ∀ {names : List (Str × NameKind)} {n : Nat} {acc : List (Str × Addr)} {p : Str × Addr}, p ∈ acc → p ∈ cellsFrom n names acc
  | [], _, _, _, h => h
  | (m, k) :: r, n, acc, p, h => by
    unfold cellsFrom
    split
    · exact cells_acc (List.mem_cons_of_mem _ h)
    · exact cells_acc h
theorem cells_has : ∀ {names : List (Str × NameKind)} {n : Nat} {acc : List (Str × Addr)} {x : Str}, (x, .cell) ∈ names → ∃ c, (x, c) ∈ cellsFrom n names acc
  | (m, k) :: r, n, acc, x, h => by
    unfold cellsFrom
    rcases List.mem_cons.mp h with e | h
    · cases e
      exact ⟨n, cells_acc List.mem_cons_self⟩
    · split
      · exact cells_has h
      · exact cells_has h
theorem cells_inj : ∀ {names : List (Str × NameKind)} {h : Heap} {acc : List (Str × Addr)} {x y : Str} {c : Addr}, (∀ p ∈ acc, p.2 < h.objs.size) → (∀ x y c, (x, c) ∈ acc → (y, c) ∈ acc → x = y) →
    (x, c) ∈ cellsFrom h.objs.size names acc → (y, c) ∈ cellsFrom h.objs.size names acc → x = y
  | [], _, _, _, _, _, _, hi, h1, h2 => hi _ _ _ h1 h2
  | (n, k) :: r, h, acc, x, y, c, hl, hi, h1, h2 => by
    unfold cellsFrom at h1 h2
    split at h1
    · rename_i hk
      rw [if_pos hk] at h2
      rw [← Heap.size_push h { cls := .type "cell", data := .cell none }] at h1 h2
      refine cells_inj (h := h.push _) (fun p hp => ?_) (fun x y c a b => ?_) h1 h2
      · rw [Heap.size_push]
        rcases List.mem_cons.mp hp with rfl | hp
        · exact Nat.lt_succ_self _
        · exact Nat.lt_succ_of_lt (hl p hp)
      · rcases List.mem_cons.mp a with e | a <;> rcases List.mem_cons.mp b with e' | b
        · cases e; cases e'; rfl
        · cases e; exact absurd (hl _ b) (Nat.lt_irrefl _)
        · cases e'; exact absurd (hl _ a) (Nat.lt_irrefl _)
        · exact hi _ _ _ a b
    · rename_i hk
      rw [if_neg hk] at h2
      exact cells_inj hl hi h1 h2
theorem newEnv_comp {M : Model} {A : Around} {E : Value → Shared → Prop} {s : Shared} {scope : Scope} {globals : Addr} {closure : List (Str × Addr)} {qual : Str} {func : Option Addr} {code : Value} {around : Env} {builtins : Addr} {Q : Env → Shared → Prop}
    (h : Q (newEnv scope s.heap.objs.size globals (cellsFrom (s.heap.objs.size + 1) scope.names closure) qual func code (some around) builtins)
      { s with heap := pushCells (s.heap.push { cls := .type "dict", data := .dict #[] }) scope.names }) :
    wpAny M A (newFunctionEnv scope globals closure [] qual func code (some around) builtins) Q E s := by
  simp only [newFunctionEnv, Option.isSome_some, if_true]
  refine wpAny_bind (wpAny_alloc ?_)
  refine wpAny_bind (wpAny_layCells _ (fun n k c => rfl) scope.names closure _ _ ?_)
  rw [show ({ s with heap := s.heap.push { cls := .type "dict", data := .dict #[] } } : Shared).heap.objs.size = s.heap.objs.size + 1 from Heap.size_push ..]
  rw [List.forIn_nil]
  exact wpAny_bind (wpAny_pure (wpAny_pure h))
theorem lookup_relS {sc : Scope} : ∀ {names : List (Str × NameKind)} {x : Str} {k : NameKind},
    (names.map fun (n, k) => if (k == NameKind.free && sc.kind == .function && sc.names.lookup n == some .cell) then (n, NameKind.cell) else (n, k)).lookup x = some k →
    ∃ k', names.lookup x = some k' ∧ (k = k' ∨ (k' = .free ∧ k = .cell))
  | [], _, _, h => by simp at h
  | (n, k₀) :: r, x, k, h => by
    have ih := @lookup_relS sc r x k
    have h' : List.lookup x ((if (k₀ == NameKind.free && sc.kind == .function && sc.names.lookup n == some .cell) = true then (n, NameKind.cell) else (n, k₀)) :: (r.map _)) = some k := h
    cases hx : x == n with
    | true =>
      simp only [List.lookup_cons, hx]
      by_cases hc : (k₀ == NameKind.free && sc.kind == .function && sc.names.lookup n == some .cell) = true
      · rw [if_pos hc] at h'
        simp only [List.lookup_cons, hx] at h'
        cases h'
        simp only [Bool.and_eq_true, beq_iff_eq] at hc
        exact ⟨k₀, rfl, .inr ⟨hc.1.1, rfl⟩⟩
      · rw [if_neg hc] at h'
        simp only [List.lookup_cons, hx] at h'
        cases h'
        exact ⟨_, rfl, .inl rfl⟩
    | false =>
      simp only [List.lookup_cons, hx]
      by_cases hc : (k₀ == NameKind.free && sc.kind == .function && sc.names.lookup n == some .cell) = true
      · rw [if_pos hc] at h'
        simp only [List.lookup_cons, hx] at h'
        exact ih h'
      · rw [if_neg hc] at h'
        simp only [List.lookup_cons, hx] at h'
        exact ih h'
structure BlkOk (N : List Str) (sc scope : Scope) (own : List (Str × Nat)) : Prop where
  kind : scope.kind = .function
  uniq : ∀ y ∈ scope.names, scope.names.lookup y.1 = some y.2
  ix : ∀ p ∈ own, N[p.2]? = some p.1
  free : ∀ y ∈ scope.names, y.2 = .free → sc.names.lookup y.1 = some .cell ∨ sc.names.lookup y.1 = some .free
  own : ∀ y ∈ scope.names, y.2 = .local ∨ y.2 = .cell → y.1 ∈ own.map (·.1) ∨ y.1 ∉ N
def wipe (σ : St) : List Nat → St
  | [] => σ
  | v :: vs => (wipe σ vs).set v none
theorem wipe_length (σ : St) : ∀ vs : List Nat, (wipe σ vs).length = σ.length
  | [] => rfl
  | v :: vs => by unfold wipe; rw [List.length_set, wipe_length σ vs]
theorem wipe_some {σ : St} {i : Nat} {x : V} : ∀ {vs : List Nat}, (wipe σ vs)[i]? = some (some x) → σ[i]? = some (some x) ∧ i ∉ vs
  | [], h => ⟨h, by simp⟩
  | v :: vs, h => by
    unfold wipe at h
    by_cases hi : v = i
    · subst hi
      by_cases hv : v < (wipe σ vs).length
      · rw [List.getElem?_set_self hv] at h; cases h
      · rw [List.getElem?_eq_none (by simpa using hv)] at h; cases h
    · rw [List.getElem?_set_ne hi] at h
      obtain ⟨h1, h2⟩ := wipe_some h
      exact ⟨h1, by simp only [List.mem_cons, not_or]; exact ⟨fun e => hi e.symm, h2⟩⟩
abbrev Cx.blk (X : Cx) (s : Shared) (H : Hp) (scope : Scope) (cenv : Env) (fp : List Addr) : Cx := { X with s_0 := s, H_0 := H, env := cenv, outer := X.stack, ex := fp, fn := fun x => scope.names.lookup x == some .cell, pn := [], xe := fun _ _ => False }
section
variable {X : Cx} {pins : List (Addr × Obj)} {σ : St} {H : Hp} {s : Shared}
theorem block_start {scope : Scope} {own : List (Str × Nat)} {fp : List Addr} (I : Inv X pins σ H s) (ok : BlkOk X.N X.env.scope scope own) (hN : X.N.Nodup) (hfp : ∀ b ∈ fp, FpOk X pins H b ∧ b < s.heap.objs.size) :
    Inv (X.blk s H scope (compEnvC scope (cellsFrom (s.heap.objs.size + 1) scope.names (cloFrom X.env.cells scope.names [])) s.heap.objs.size X.env) fp) [] (wipe σ (own.map (·.2))) H { s with heap := pushCells (s.heap.push { cls := .type "dict", data := .dict #[] }) scope.names } := by
  have hfree : ∀ y ∈ scope.names, y.2 = .free → ∃ c, X.env.cells.lookup y.1 = some c := fun y hy e => by
    rcases ok.free y hy e with k | k
    · exact I.ok.has _ (.inl k)
    · exact I.ok.has _ (.inr k)
  generalize hcenv : compEnvC scope (cellsFrom (s.heap.objs.size + 1) scope.names (cloFrom X.env.cells scope.names [])) s.heap.objs.size X.env = cenv
  have kp : ∀ b o, s.heap.get? b = some o → (pushCells (s.heap.push { cls := .type "dict", data := .dict #[] }) scope.names).get? b = some o := fun b o e => pushCells_keeps _ _ _ _ (Heap.get?_push_of_some _ e)
  have hL : cenv.locals = s.heap.objs.size := by rw [← hcenv]; rfl
  have hcl : cenv.cells = cellsFrom (s.heap.objs.size + 1) scope.names (cloFrom X.env.cells scope.names []) := by rw [← hcenv]; rfl
  have hsc : cenv.scope = relS scope X.env.scope := by rw [← hcenv]; rfl
  rw [← Heap.size_push s.heap { cls := .type "dict", data := .dict #[] }] at hcl
  have cm : ∀ {y c}, (y, c) ∈ cloFrom X.env.cells scope.names [] → X.env.cells.lookup y = some c ∧ c < s.heap.objs.size := fun {y c} hm => by
    rcases cloFrom_mem hm with hm | ⟨h1, rfl⟩
    · cases hm
    · obtain ⟨c, hc⟩ := hfree _ h1 rfl
      rw [hc]
      obtain ⟨w, z⟩ := I.cell _ _ hc
      exact ⟨rfl, z.lt⟩
  have mem : ∀ {y c}, cenv.cells.lookup y = some c → (X.env.cells.lookup y = some c ∧ c < s.heap.objs.size) ∨ (s.heap.objs.size + 1 ≤ c ∧ CellAt (pushCells (s.heap.push { cls := .type "dict", data := .dict #[] }) scope.names) c none) := fun {y c} e => by
    rw [hcl] at e
    rcases cells_mem (PySem.mem_of_lookup e) with hm | ⟨_, h2, h3⟩
    · exact .inl (cm hm)
    · rw [Heap.size_push] at h2; exact .inr ⟨h2, h3⟩
  have look : ∀ {y}, scope.names.lookup y = some .free → ∃ c, cenv.cells.lookup y = some c ∧ X.env.cells.lookup y = some c := fun {y} hl => by
    have hy : (y, NameKind.free) ∈ scope.names := PySem.mem_of_lookup hl
    obtain ⟨c', e'⟩ := mem_lookup (cells_acc (names := scope.names) (n := (s.heap.push { cls := .type "dict", data := .dict #[] }).objs.size) (cloFrom_has (cells := X.env.cells) (acc := []) hy))
    rw [← hcl] at e'
    refine ⟨c', e', ?_⟩
    rw [hcl] at e'
    rcases cells_mem (PySem.mem_of_lookup e') with hm | ⟨h1, _, _⟩
    · exact (cm hm).1
    · have := ok.uniq _ h1
      rw [hl] at this; cases this
  have okB : (X.blk s H scope cenv fp).Ok := by
    refine ⟨I.ok.mod, by show cenv.scope.kind = _; rw [hsc]; exact ok.kind, by show cenv.globals = _; rw [← hcenv]; exact I.ok.glob, by show cenv.builtins = _; rw [← hcenv]; exact I.ok.blt, by show s.heap.objs.size ≤ cenv.locals; rw [hL]; exact Nat.le_refl _,
      fun y z c e1 e2 => ?_, fun y hy => ?_, fun y c z e => ?_, I.ok.hd, I.ok.frames, .inl rfl, fun b hb => ⟨?_, fun y c e z => ?_⟩, I.bs, Nat.le_trans I.ok.bsz I.sz, fun b o e hb => ?_, fun b hb z => ?_, I.stack, I.stkFree⟩
    · have e1 : cenv.cells.lookup y = some c := e1
      have e2 : cenv.cells.lookup z = some c := e2
      rw [hcl] at e1 e2
      refine cells_inj (fun p hp => ?_) (fun y z c a b => I.ok.inj y z c (cm a).1 (cm b).1) (PySem.mem_of_lookup e1) (PySem.mem_of_lookup e2)
      rw [Heap.size_push]
      exact Nat.lt_succ_of_lt (cm (y := p.1) (c := p.2) hp).2
    · show ∃ c, cenv.cells.lookup y = some c
      have key : ∀ k, cenv.kindOf y = some k → (k = .cell ∨ k = .free) → ∃ c, cenv.cells.lookup y = some c := fun k hk hk' => by
        unfold Env.kindOf at hk
        rw [hsc] at hk
        obtain ⟨k', e, r⟩ := lookup_relS hk
        have : k' = .cell ∨ k' = .free := by
          rcases r with rfl | ⟨rfl, _⟩
          · exact hk'
          · exact .inr rfl
        rcases this with rfl | rfl
        · obtain ⟨c, hm⟩ := cells_has (n := (s.heap.push { cls := .type "dict", data := .dict #[] }).objs.size) (acc := cloFrom X.env.cells scope.names []) (PySem.mem_of_lookup e)
          obtain ⟨c', e'⟩ := mem_lookup hm
          exact ⟨c', by rw [hcl]; exact e'⟩
        · obtain ⟨c, h1, _⟩ := look e
          exact ⟨c, h1⟩
      rcases hy with hy | hy
      · exact key _ hy (.inl rfl)
      · exact key _ hy (.inr rfl)
    · have z : (scope.names.lookup y == some NameKind.cell) = true := z
      have z : scope.names.lookup y = some .cell := by simpa using z
      have e : cenv.cells.lookup y = some c := e
      rw [hcl] at e
      rcases cells_mem (PySem.mem_of_lookup e) with hm | ⟨_, h2, _⟩
      · rcases cloFrom_mem hm with hm | ⟨h1, _⟩
        · cases hm
        · have q := ok.uniq _ h1
          rw [z] at q; cases q
      · rw [Heap.size_push] at h2
        exact Nat.le_of_succ_le h2
    · show b ≠ cenv.locals
      rw [hL]; exact Nat.ne_of_lt (hfp b hb).2
    · have e : cenv.cells.lookup y = some c := e
      rcases mem e with ⟨h1, _⟩ | ⟨h1, _⟩
      · exact (hfp b hb).1.2.2.2.2.1 y c h1 z
      · have h2 : s.heap.objs.size + 1 ≤ b := by rw [← z]; exact h1
        exact absurd (Nat.lt_of_lt_of_le (hfp b hb).2 (Nat.le_of_succ_le h2)) (Nat.lt_irrefl _)
    · rcases (hfp b hb).1.2.2.2.1 with z | z
      · exact I.ok.noex b o e z
      · exact absurd (Nat.lt_of_lt_of_le (Heap.lt_size e) (Nat.le_trans I.ok.bsz z)) (Nat.lt_irrefl _)
    · rcases List.mem_cons.mp (I.stkSub b z) with z | z
      · exact (hfp b hb).1.2.1 z
      · exact (hfp b hb).1.2.2.1 z
  refine ⟨okB, rfl, I.bare, Un.kept kp, ⟨fun _ => none, ?_, fun i y av e1 e2 e3 => ?_⟩, fun y c e => ?_, ?_, fun y c e => ?_, fun p hp => ?_, I.hok.kept kp, by rw [wipe_length]; exact I.len⟩
  · show Heap.Ns _ cenv.locals _
    rw [hL]
    exact Heap.Ns.keeps (Heap.Ns.new ..) fun b o e => pushCells_keeps _ _ _ _ e
  · obtain ⟨e2, hne⟩ := wipe_some e2
    have hfr : scope.names.lookup y = some .free ∧ (cenv.kindOf y = some .cell ∨ cenv.kindOf y = some .free) := by
      have key : ∀ k, cenv.scope.names.lookup y = some k → k = .local ∨ k = .cell ∨ k = .free → scope.names.lookup y = some .free ∧ (cenv.kindOf y = some .cell ∨ cenv.kindOf y = some .free) := fun k hk hk' => by
        have hk0 := hk
        rw [hsc] at hk
        obtain ⟨k', e, r⟩ := lookup_relS hk
        have no : ¬ (k' = .local ∨ k' = .cell) := fun hh => by
          rcases ok.own _ (PySem.mem_of_lookup e) hh with e' | e'
          · obtain ⟨p, hp, hpy⟩ := List.mem_map.mp e'
            have e3 := ok.ix p hp
            have : p.1 = y := hpy
            rw [this] at e3
            exact hne (List.mem_map.mpr ⟨p, hp, nodup_ix hN e3 e1⟩)
          · exact e' (List.mem_of_getElem? e1)
        rcases r with rfl | ⟨rfl, rfl⟩
        · rcases hk' with rfl | rfl | rfl
          · exact absurd (.inl rfl) no
          · exact absurd (.inr rfl) no
          · exact ⟨e, .inr hk0⟩
        · exact ⟨e, .inl hk0⟩
      have e3 : Vis cenv.scope y := e3
      rcases e3 with e3 | e3 | e3
      · exact key _ e3 (.inl rfl)
      · exact key _ e3 (.inr (.inl rfl))
      · exact key _ e3 (.inr (.inr rfl))
    obtain ⟨m, hn, hl⟩ := I.loc
    have hvis : Vis X.env.scope y := (ok.free _ (PySem.mem_of_lookup hfr.1) rfl).elim (fun k => .inr (.inl k)) (fun k => .inr (.inr k))
    obtain ⟨w, r, q⟩ := hl i y av e1 e2 hvis
    refine ⟨w, r, .inr ⟨hfr.2, ?_⟩⟩
    obtain ⟨c, h1, h2⟩ := look hfr.1
    rcases q with ⟨k, _⟩ | ⟨_, c', e', z⟩
    · have k : X.env.scope.names.lookup y = some .local := k
      rcases ok.free _ (PySem.mem_of_lookup hfr.1) rfl with k' | k' <;> rw [show X.env.scope.names.lookup y = _ from k'] at k <;> cases k
    · rw [h2] at e'; cases e'
      exact ⟨c, h1, z.keeps kp⟩
  · have e : cenv.cells.lookup y = some c := e
    rcases mem e with ⟨h1, _⟩ | ⟨_, z⟩
    · obtain ⟨w, z⟩ := I.cell y c h1
      exact ⟨w, z.keeps kp⟩
    · exact ⟨_, z⟩
  · show H cenv.locals = none
    rw [hL]; exact I.hok.fresh (Nat.le_refl _)
  · have e : cenv.cells.lookup y = some c := e
    rcases mem e with ⟨h1, _⟩ | ⟨h1, _⟩
    · exact I.freeC y c h1
    · exact I.hok.fresh (Nat.le_of_succ_le h1)
  · exact absurd (show p ∈ ([] : List (Addr × Obj)) ++ [] from hp) (by simp)
theorem app_ok {E : Value → Shared → Prop} {D : Addr} {xs : List V} {y : V} {v : Value} {Q : Value → Shared → Prop} (I : Inv X pins σ H s) (hD : H D = some (.lst xs)) (hz : xs.length < sizeLine) (r : RelV y v)
    (h : ∀ s', Inv X pins σ (upd H D (.lst (xs ++ [y]))) s' → Q .none s') : wpAny (model X.prog X.w) X.A (call (.builtin "list.append") [.ref D, v]) Q E s := by
  obtain ⟨hz', its, n, ri, e⟩ := I.hok D _ hD
  have hl := ri.length
  refine append_at (hsz := by rw [List.size_toArray]; omega) e fun h' sb ho' => ?_
  refine h { s with heap := h' } (I.write (t' := s.toks) (by rw [hD]; trivial) (.inl rfl) (fun b u hb q => (sb.2 b hb).trans q) ⟨_, ho'⟩ ⟨by rw [List.length_append]; exact hz, its ++ [v], n + 1, ri.append (.cons r .nil), ?_⟩)
  rw [ho']
  simp
def PTs (X : Cx) (ifs : List Expr) (t : TT) : Prop :=
  ∀ (pins : List (Addr × Obj)) (s : Shared) (σ : St) (H : Hp) (Q : Bool → Hp → Prop), Inv X pins σ H s → t σ H Q →
    wpAny (model X.prog X.w) X.A (forIn ifs true fun c r => if r = true then do let ok ← isTrue c X.env (eval c X.env); pure (ForInStep.yield ok) else pure (ForInStep.yield r)) (TP X pins σ Q) X.xe s
def tYes : TT := fun _ H Q => Q true H
theorem pts_nil : PTs X [] tYes := fun _ _ _ H _ I h => wpAny_tests_nil ⟨H, I, h⟩
end
theorem thnF {α : Type} {t : Sem α} {Q Q' : α → Shared → Prop} {M : Model} {A : Around} {E : Value → Shared → Prop} {s : Shared} (h : wpAny M A t Q (fun _ _ => False) s) (hQ : ∀ a s, Q a s → Q' a s) : wpAny M A t Q' E s := wpAny_mono h hQ fun _ _ z => False.elim z
theorem compLoop_any {prog : Program} {w : World} {A : Around} {R : Result → Shared → Prop} {s : Shared} {elt target iter : Expr} {ifs : List Expr} {scope : Scope} {pos : Pos} {it acc : Value} {env : Env} (I : Nat → Shared → Prop)
    (turn : ∀ n s, I n s → wpAny (model prog w) A (pyNext it) (fun r s₁ => match r with
      | none => R (.ok .next) s₁
      | some v => wpAny (model prog w) A (letOwnedTupleGo target it v) (fun _ s₁' => wpAny (model prog w) A (assign target env v) (fun _ s₂ =>
          wpAny (model prog w) A (forIn ifs true fun c r => if r = true then do let ok ← isTrue c env (eval c env); pure (ForInStep.yield ok) else pure (ForInStep.yield r)) (fun ok s₃ =>
            if ok = true then wpAny (model prog w) A (eval elt env) (fun x s₄ =>
              wpAny (model prog w) A (call (.builtin "list.append") [acc, x]) (fun _ s₅ => ∃ m, m < n ∧ I m s₅) (notedBy (model prog w) A env fun e s' => R (.error e) s') s₄) (notedBy (model prog w) A env fun e s' => R (.error e) s') s₃
            else ∃ m, m < n ∧ I m s₃) (notedBy (model prog w) A env fun e s' => R (.error e) s') s₂) (notedBy (model prog w) A env fun e s' => R (.error e) s') s₁') (notedBy (model prog w) A env fun e s' => R (.error e) s') s₁) (notedBy (model prog w) A env fun e s' => R (.error e) s') s)
    (n : Nat) (h : I n s) :
    codeAny (model prog w) A (.compLoop (.ListComp elt [⟨target, iter, ifs, 0⟩] scope pos) 0 it acc env) R s := by
  refine codeAny_loop rfl I (fun n s hI => ?_) n h
  show wpAny _ A ((compTurn (.ListComp elt [⟨target, iter, ifs, 0⟩] scope pos) 0 it acc env).onRaise (fun x => do noteFrame x env; theTreesLotGoes x)) _ _ s
  refine wpAny_noted ?_
  rw [compTurn_list]
  refine wpAny_bind (wpAny_standAt (wpAny_bind (wpAny_mono (turn n s hI) (fun r s₁ h₁ => ?_) fun _ _ h' => h')))
  cases r with
  | none => exact wpAny_pure h₁
  | some v =>
    refine wpAny_bind (wpAny_mono h₁ (fun _ s₁' h₁' => ?_) fun _ _ h' => h')
    refine wpAny_bind (wpAny_mono h₁' (fun _ s₂ h₂ => wpAny_bind (wpAny_mono h₂ (fun ok s₃ h₃ => ?_) fun _ _ h' => h')) fun _ _ h' => h')
    cases ok with
    | false => exact wpAny_pure ⟨rfl, h₃⟩
    | true =>
      exact wpAny_bind (wpAny_bind (wpAny_mono h₃ (fun x s₄ h₄ => wpAny_bind (wpAny_mono h₄ (fun _ s₅ h₅ => wpAny_pure (wpAny_pure ⟨rfl, h₅⟩)) fun _ _ h' => h')) fun _ _ h' => h'))
section
variable {X : Cx}
def tLc (wi : TI) (g : TG) (tt : TT) (te : TE) (vs : List Nat) : TE := fun σ H Q => wi σ H fun J H1 => ∀ D, H1 D = none → ∃ W : Nat → Nat → Hp → Prop, (∃ m, W 0 m (upd H1 D (.lst []))) ∧ ∀ i m H, W i m H →
  (J.stop i H ∧ Q (.ref D) H) ∨ (J.go i H ∧ ∃ Nx : Hp → Prop, (∀ H', Nx H' → ∃ m', m' < m ∧ W (i + 1) m' H') ∧ ∀ x H', J.yld i H x H' → g x (wipe σ vs) H' fun σ2 H2 => wipe σ2 vs = wipe σ vs ∧ tt σ2 H2 fun b H3 =>
    if b = true then te σ2 H3 fun y H4 => ∃ acc, H4 D = some (.lst acc) ∧ acc.length < sizeLine ∧ Nx (upd H4 D (.lst (acc ++ [y]))) else Nx H3)
theorem lc_core {pins : List (Addr × Obj)} {s : Shared} {σ : St} {H : Hp} {Q : VK} {elt tg iter : Expr} {ifs : List Expr} {scope : Scope} {own : List (Str × Nat)} {pos pos' : Pos} {wi : TI} {g : TG} {tt : TT} {te : TE} {use : Option (Value → Sem Unit)} {Qf : Value → Shared → Prop}
    (hc : X.calm = true) (hN : X.N.Nodup) (I : Inv X pins σ H s) (hi : PI X tg iter wi) (ok : BlkOk X.N X.env.scope scope own)
    (hg : ∀ (s : Shared) (H : Hp) (C : Addr) (cl : List (Str × Addr)) (fp : List Addr), PG (X.blk s H scope (compEnvC scope cl C X.env) fp) tg g) (ht : ∀ (s : Shared) (H : Hp) (C : Addr) (cl : List (Str × Addr)) (fp : List Addr), PTs (X.blk s H scope (compEnvC scope cl C X.env) fp) ifs tt)
    (he : ∀ (s : Shared) (H : Hp) (C : Addr) (cl : List (Str × Addr)) (fp : List Addr), PE (X.blk s H scope (compEnvC scope cl C X.env) fp) elt te) (hs : ∀ x, foldedSetIterable iter X.env x = pure x)
    (h : tLc wi g tt te (own.map (·.2)) σ H Q)
    (hRR : ∀ D C s' m H', Inv X pins σ H' s' → Q (.ref D) H' → s'.heap.Ns C m → FpOk X pins H' C → compPost (model X.prog X.w) X.A X.xe use Qf (.ref D) C (.ok .next) s') :
    wpAny (model X.prog X.w) X.A (comprehension (.ListComp elt [⟨tg, iter, ifs, 0⟩] scope pos) scope X.env pos' (newList []) false (eval iter X.env) use) Qf X.xe s := by
  have hfree : ∀ y ∈ scope.names, y.2 = .free → ∃ c, X.env.cells.lookup y.1 = some c := fun y hy e => by
    rcases ok.free y hy e with k | k
    · exact I.ok.has _ (.inl k)
    · exact I.ok.has _ (.inr k)
  refine wpAny_comprehension_free (use := use) rfl hs (closure_ok hfree) ok.kind (fun y hy e => by rw [ok.uniq y hy, e])
    (thn (hi pins s σ H _ I h) fun xv s1 hx => thn hx fun itv s2 h2 => ?_)
  obtain ⟨it, fp, tn, J, H2, e, I2, T, st2, f2, q⟩ := h2
  subst e
  refine wpAny_newObj_type (newEnv_comp ?_) (by show 0 ≤ sizeLine; decide)
  generalize hD : s2.heap.objs.size = D
  have hDn : H2 D = none := I2.hok.fresh (Nat.le_of_eq hD)
  obtain ⟨W, ⟨m0, w0⟩, turn⟩ := q D hDn
  -- the new list
  generalize hs3 : ({ s2 with heap := s2.heap.push { cls := .type "list", data := .seq ([] : List Value).toArray } } : Shared) = s3
  have I3 : Inv X pins σ (upd H2 D (.lst [])) s3 := by
    rw [← hs3]
    refine I2.laid (t' := s2.toks) (fun b o e => Heap.get?_push_of_some _ e) (Nat.le_of_eq hD) ⟨Nat.zero_le _, [], 0, .nil, ?_⟩
    rw [← hD]
    exact Heap.get?_push_size _ rfl
  have h3 : s3.heap = s2.heap.push { cls := .type "list", data := .seq ([] : List Value).toArray } := by rw [← hs3]
  have sz : ∀ b ∈ fp, b < s2.heap.objs.size := fun b hb => by
    obtain ⟨o, e, _⟩ := T.obj _ _ st2 b hb
    exact Heap.lt_size e
  have f3 : ∀ b ∈ fp, FpOk X pins (upd H2 D (.lst [])) b ∧ b < s3.heap.objs.size := fun b hb => by
    have hlt := sz b hb
    refine ⟨⟨?_, (f2 b hb).2⟩, by rw [h3, Heap.size_push]; exact Nat.lt_succ_of_lt hlt⟩
    rw [upd_ne (by rw [← hD]; exact Nat.ne_of_lt hlt)]
    exact (f2 b hb).1
  have st3 : tn 0 s3.heap := T.keep _ _ _ st2 fun b _ o e => by rw [h3]; exact Heap.get?_push_of_some _ e
  have I4 := block_start I3 ok hN f3
  have pg := hg s3 (upd H2 D (.lst [])) s3.heap.objs.size (cellsFrom (s3.heap.objs.size + 1) scope.names (cloFrom X.env.cells scope.names [])) fp
  have pt := ht s3 (upd H2 D (.lst [])) s3.heap.objs.size (cellsFrom (s3.heap.objs.size + 1) scope.names (cloFrom X.env.cells scope.names [])) fp
  have pe := he s3 (upd H2 D (.lst [])) s3.heap.objs.size (cellsFrom (s3.heap.objs.size + 1) scope.names (cloFrom X.env.cells scope.names [])) fp
  show codeAny _ _ (.compStart (.ListComp elt [⟨tg, iter, ifs, 0⟩] scope pos) 0 (.ref it) (.ref D) (compEnvC scope (cellsFrom (s3.heap.objs.size + 1) scope.names (cloFrom X.env.cells scope.names [])) s3.heap.objs.size X.env)) (compPost (model X.prog X.w) X.A X.xe use Qf (.ref D) s3.heap.objs.size) { s3 with heap := pushCells (s3.heap.push { cls := .type "dict", data := .dict #[] }) scope.names }
  have nfp : ∀ b ∈ fp, (upd H2 D (.lst [])) b = none := fun b hb => (f3 b hb).1.1
  generalize hce : compEnvC scope (cellsFrom (s3.heap.objs.size + 1) scope.names (cloFrom X.env.cells scope.names [])) s3.heap.objs.size X.env = ce at I4 pg pt pe ⊢
  have cL : ce.locals = s3.heap.objs.size := by subst hce; rfl
  generalize hH3 : upd H2 D (.lst []) = H3 at I3 I4 pg pt pe w0 nfp f3
  generalize hs4 : ({ s3 with heap := pushCells (s3.heap.push { cls := .type "dict", data := .dict #[] }) scope.names } : Shared) = s4 at I4 ⊢
  have st4 : tn 0 s4.heap := T.keep _ _ _ st3 fun b _ o e => by rw [← hs4]; exact pushCells_keeps _ _ _ _ (Heap.get?_push_of_some _ e)
  have stat : ∀ {σ' : St} {H' : Hp} {s' : Shared}, Inv (X.blk s3 H3 scope ce fp) [] σ' H' s' → (∀ b ∈ fp, H' b = none) → ∀ b ∈ fp, FpOk (X.blk s3 H3 scope ce fp) [] H' b := fun {σ' H' s'} I' hn b hb =>
    ⟨hn b hb, (I'.ok.exf b hb).1, I'.ok.exfs b hb, .inl hb, fun x c e => (I'.ok.exf b hb).2 x c e, fun p hp => absurd (show p ∈ ([] : List (Addr × Obj)) ++ [] from hp) (by simp)⟩
  have loop : codeAny (model X.prog X.w) X.A (.compLoop (.ListComp elt [⟨tg, iter, ifs, 0⟩] scope pos) 0 (.ref it) (.ref D) ce) (compPost (model X.prog X.w) X.A X.xe use Qf (.ref D) s3.heap.objs.size) s4 := by
    refine compLoop_any (fun n s' => ∃ i H', Inv (X.blk s3 H3 scope ce fp) [] (wipe σ (own.map (·.2))) H' s' ∧ tn i s'.heap ∧ (∀ b ∈ fp, H' b = none) ∧ W i n H') ?_ m0 ⟨0, H3, I4, st4, nfp, w0⟩
    rintro n s5 ⟨i, H5, I5, st5, n5, w5⟩
    rcases turn i n H5 w5 with ⟨stop, qq⟩ | ⟨go, Nx, hNx, step⟩
    · have td := T.done (X.blk s3 H3 scope ce fp) rfl rfl rfl hc i [] s5 _ H5 (fun _ _ => False) I5 (stat I5 n5) st5 stop
      refine thnF td fun r s6 ⟨hr, I6⟩ => ?_
      subst hr
      -- back in the def's context
      have I7 : Inv X pins σ H5 s6 := I3.call' (ch := fp) I6.os I6.base I6.hok I6.bare fun b hb => ⟨(f3 b hb).1.2.2.2.1, (f3 b hb).1.2.1, (f3 b hb).1.2.2.2.2.1, (f3 b hb).1.2.2.2.2.2⟩
      have nC : H5 s3.heap.objs.size = none := by
        have z : H5 ce.locals = none := I6.free
        rw [cL] at z
        exact z
      obtain ⟨m, hn, _⟩ := I6.loc
      have hn : s6.heap.Ns ce.locals m := hn
      rw [cL] at hn
      exact hRR D s3.heap.objs.size s6 m H5 I7 qq hn (I3.fpOk (Nat.le_refl _) nC)
    · have ti := T.item (X.blk s3 H3 scope ce fp) rfl rfl rfl hc i [] s5 _ H5 (fun _ _ => False) I5 (stat I5 n5) st5 go
      refine thnF ti fun r s6 ⟨u, hr, h6⟩ => ?_
      subst hr
      refine thnF h6 fun _ s7 ⟨x, H7, I7, r7, y7, st7, n7⟩ => ?_
      have I7' := I7.pinned (stat I7 n7) (T.obj _ _ st7)
      refine thnF (pg _ s7 _ H7 x u _ I7' r7 (step x H7 y7)) fun _ s8 ⟨σ8, H8, I8, hw8, q8⟩ => ?_
      refine thnF (pt _ s8 σ8 H8 _ I8 q8) fun b s9 ⟨H9, I9, q9⟩ => ?_
      -- the turn's end
      have fin : ∀ {s' : Shared} {H' : Hp}, Inv (X.blk s3 H3 scope ce fp) ([] ++ pinsAt fp s7.heap) σ8 H' s' → Nx H' → ∃ m, m < n ∧ ∃ i H', Inv (X.blk s3 H3 scope ce fp) [] (wipe σ (own.map (·.2))) H' s' ∧ tn i s'.heap ∧ (∀ b ∈ fp, H' b = none) ∧ W i m H' := fun {s' H'} I' nx => by
        obtain ⟨m', hm, w'⟩ := hNx H' nx
        have pin' : ∀ b ∈ fp, ∀ o, s7.heap.get? b = some o → s'.heap.get? b = some o ∧ H' b = none := fun b hb o e =>
          let z := I'.pin (b, o) (List.mem_append_right _ (List.mem_append_right _ (mem_pinsAt hb e)))
          ⟨z.1, z.2.1⟩
        have hl : (wipe σ (own.map (·.2))).length = σ8.length := by rw [← hw8, wipe_length]
        refine ⟨m', hm, i + 1, H', (I'.unpinned (pins := [])).weak hl (fun j v e => ?_), T.keep _ _ _ st7 fun b hb o e => (pin' b hb o e).1, fun b hb => ?_, w'⟩
        · rw [← hw8] at e
          exact (wipe_some e).1
        · obtain ⟨o, e, _⟩ := T.obj _ _ st7 b hb
          exact (pin' b hb o e).2
      cases b with
      | false =>
        simp only [Bool.false_eq_true, if_false] at q9 ⊢
        exact fin I9 q9
      | true =>
        simp only [if_true] at q9 ⊢
        refine thnF (pe _ s9 σ8 H9 _ I9 q9) fun z s10 ⟨yv, H10, I10, r10, acc, hD10, hz10, nx⟩ => ?_
        exact app_ok (X := X.blk s3 H3 scope ce fp) I10 hD10 hz10 r10 fun s11 I11 => fin I11 nx
  exact codeAny_compStart_list loop (T.self X.A 0 _ _ _ st4 loop)
theorem ps_setLc {i : Nat} {y : Str} {py : Pos} {elt tg iter : Expr} {ifs : List Expr} {scope : Scope} {own : List (Str × Nat)} {pos spos : Pos} {wi : TI} {g : TG} {tt : TT} {te : TE} (hc : X.calm = true) (hN : X.N.Nodup) (hy : X.N[i]? = some y) (hyl : X.env.scope.names.lookup y = some .local)
    (hsw : swapsWith (.ListComp elt [⟨tg, iter, ifs, 0⟩] scope pos) (some (.Name y py)) spos.line X.env = pure true) (hi : PI X tg iter wi) (ok : BlkOk X.N X.env.scope scope own)
    (hg : ∀ (s : Shared) (H : Hp) (C : Addr) (cl : List (Str × Addr)) (fp : List Addr), PG (X.blk s H scope (compEnvC scope cl C X.env) fp) tg g) (ht : ∀ (s : Shared) (H : Hp) (C : Addr) (cl : List (Str × Addr)) (fp : List Addr), PTs (X.blk s H scope (compEnvC scope cl C X.env) fp) ifs tt)
    (he : ∀ (s : Shared) (H : Hp) (C : Addr) (cl : List (Str × Addr)) (fp : List Addr), PE (X.blk s H scope (compEnvC scope cl C X.env) fp) elt te) (hs : ∀ x, foldedSetIterable iter X.env x = pure x := by intro _; rfl) :
    PS X (.Assign [.Name y py] (.ListComp elt [⟨tg, iter, ifs, 0⟩] scope pos) spos) (tAsg (tLc wi g tt te (own.map (·.2))) (gName i)) := by
  intro pins s σ H D I h
  rw [exec_Assign_Name_used _ _ _ _ hsw]
  refine wpAny_bind (wpAny_standAt (wpAny_bind ?_))
  show wpAny _ X.A (do let _ ← comprehension (.ListComp elt [⟨tg, iter, ifs, 0⟩] scope pos) scope X.env (firstIterPos [⟨tg, iter, ifs, 0⟩] pos) (newList []) false (eval iter X.env) (some (assign (.Name y py) X.env))) _ _ s
  have h : tLc wi g tt te (own.map (·.2)) σ H (fun x H1 => gName i x σ H1 D.nx) := h
  refine wpAny_bind (thn (lc_core (Qf := fun _ s' => SP X pins D .next s') hc hN I hi ok hg ht he hs h fun L C s' m H' I' q hn f => ?_) fun _ s' hq => wpAny_pure (wpAny_pure hq))
  show wpAny _ _ (assign (.Name y py) X.env (.ref L)) _ _ _
  refine wpAny_assign_Name (store_ok2 (v := V.ref L) I' hN hy (.inl hyl) rfl (fun s2 I2 ⟨a, sb, ha⟩ => ?_) (.inr hyl))
  obtain ⟨f0, f1, f2, f3, f4, f5⟩ := f
  have haC : C ≠ a := by
    rcases ha with z | z
    · rw [z]; exact f1
    · exact fun e => f4 y a z e.symm
  refine ⟨m, hn.sameBut sb haC, fun h3 sb3 => ?_⟩
  exact ⟨_, H', I2.turned (t' := s2.toks) (fun b o hb e => (sb3.2 b hb).trans e) f0 f1 f3 f4 f5, q⟩
theorem sw_true {elt : Expr} {gs : List Comprehension} {scope : Scope} {pos py : Pos} {y : Str} {l : Nat} {env : Env} (hk : env.scope.kind = .function) (hy : env.scope.names.lookup y = some .local) (hl : (py.line == pos.line) = true)
    (ha : (scope.names.any fun (n, k) => n == y && (k == .local || k == .cell)) = false) : swapsWith (.ListComp elt gs scope pos) (some (.Name y py)) l env = pure true := by
  have ky : env.kindOf y = some .local := hy
  have hb : env.blockKind = .function := by unfold Env.blockKind; rw [hk]; rfl
  unfold swapsWith
  simp only [hb, ky, ha, Expr.pos, hl]
  rfl
end
def blkC (N : List Str) (sc scope : Scope) (own : List (Str × Nat)) : Bool :=
  (match scope.kind with | .function => true | _ => false) && (scope.names.all fun y => decide (scope.names.lookup y.1 = some y.2)) && (own.all fun p => decide (N[p.2]? = some p.1)) &&
    (scope.names.all fun y => match y.2 with
      | .free => (match sc.names.lookup y.1 with | some .cell => true | some .free => true | _ => false)
      | .local => decide (y.1 ∈ own.map (·.1)) || decide (y.1 ∉ N)
      | .cell => decide (y.1 ∈ own.map (·.1)) || decide (y.1 ∉ N)
      | _ => true)
theorem blkOk_by {N : List Str} {sc scope : Scope} {own : List (Str × Nat)} (h : blkC N sc scope own = true) : BlkOk N sc scope own := by
  unfold blkC at h
  simp only [Bool.and_eq_true, List.all_eq_true, decide_eq_true_eq] at h
  obtain ⟨⟨⟨h1, h2⟩, h3⟩, h4⟩ := h
  refine ⟨?_, h2, h3, fun y hy e => ?_, fun y hy e => ?_⟩
  · split at h1
    · assumption
    · cases h1
  · have q := h4 y hy
    simp only [e] at q
    split at q <;> first | exact .inl (by assumption) | exact .inr (by assumption) | cases q
  · have q := h4 y hy
    rcases e with e | e <;> (simp only [e, Bool.or_eq_true, decide_eq_true_eq] at q; exact q)
end L2
namespace L2
open PySem PySem.Spec PyProof.Rows
section
variable {prog : Program} {w : World} {A : Around} {R : Result → Shared → Prop} {s : Shared} {elt t0 i0 t1 i1 : Expr} {ifs0 ifs1 : List Expr} {scope : Scope} {pos : Pos} {it acc : Value} {env : Env}
end
section
variable {X : Cx}
end
end L2
namespace L2
open PySem PySem.Spec PyProof.Rows
section
variable {κ : Type} [DecidableEq κ]
def valV (kvs : List (κ × V)) (k : κ) : Option V := (kvs.find? fun kv => decide (kv.1 = k)).map (·.2)
def putK (kvs : List (κ × V)) (k : κ) (v : V) : List (κ × V) :=
  if (kvs.any fun kv => decide (kv.1 = k)) = true then kvs.map (fun kv => if kv.1 = k then (kv.1, v) else kv) else kvs ++ [(k, v)]
def dropK (kvs : List (κ × V)) (k : κ) : List (κ × V) := kvs.filter fun kv => decide (kv.1 ≠ k)
theorem valV_pos {p : κ × V} {r : List (κ × V)} {k : κ} (e : p.1 = k) : valV (p :: r) k = some p.2 := by simp [valV, List.find?_cons, e]
theorem valV_neg {p : κ × V} {r : List (κ × V)} {k : κ} (e : ¬ p.1 = k) : valV (p :: r) k = valV r k := by simp [valV, List.find?_cons, e]
theorem valV_any (k : κ) : ∀ kvs : List (κ × V), (kvs.any fun kv => decide (kv.1 = k)) = (valV kvs k).isSome
  | [] => rfl
  | p :: r => by
    rw [List.any_cons]
    by_cases e : p.1 = k
    · simp only [valV_pos e, decide_eq_true e, Bool.true_or, Option.isSome_some]
    · rw [valV_neg e, decide_eq_false e, Bool.false_or]; exact valV_any k r
theorem RelO.isSome_eq {o : Option V} {u : Option Value} (r : RelO o u) : o.isSome = u.isSome := by
  cases o with
  | none => cases u with
    | none => rfl
    | some _ => exact (show False from r).elim
  | some _ => cases u with
    | none => exact (show False from r).elim
    | some _ => rfl
theorem RelO.getD {o : Option V} {u : Option Value} {d : V} {d' : Value} (r : RelO o u) (rd : RelV d d') : RelV (o.getD d) (u.getD d') := by
  cases o with
  | none => cases u with
    | none => exact rd
    | some _ => exact (show False from r).elim
  | some _ => cases u with
    | none => exact (show False from r).elim
    | some _ => exact r
theorem KV.val {kvs : List (κ × V)} {vs : List (κ × Value)} (r : KV kvs vs) (k : κ) : RelO (valV kvs k) (valueAt vs k) := by
  unfold KV at r
  induction r with
  | nil => exact True.intro
  | @cons p q ps qs h t ih =>
    obtain ⟨h1, h2⟩ := h
    by_cases e : p.1 = k
    · have e' : q.1 = k := h1.symm.trans e
      have b : valueAt (q :: qs) k = some q.2 := by simp [valueAt, List.find?_cons, e']
      rw [valV_pos e, b]; exact h2
    · have e' : ¬ q.1 = k := fun z => e (h1.trans z)
      have b : valueAt (q :: qs) k = valueAt qs k := by simp [valueAt, List.find?_cons, e']
      rw [valV_neg e, b]; exact ih
theorem KV.any {kvs : List (κ × V)} {vs : List (κ × Value)} (r : KV kvs vs) (k : κ) : (kvs.any fun kv => decide (kv.1 = k)) = vs.any fun kv => decide (kv.1 = k) := by
  unfold KV at r
  induction r with
  | nil => rfl
  | cons h t ih => rw [List.any_cons, List.any_cons, ih, h.1]
theorem KV.repl {kvs : List (κ × V)} {vs : List (κ × Value)} (r : KV kvs vs) (k : κ) {y : V} {u : Value} (ry : RelV y u) :
    KV (kvs.map fun kv => if kv.1 = k then (kv.1, y) else kv) (vs.map fun kv => if kv.1 = k then (kv.1, u) else kv) := by
  unfold KV at r ⊢
  induction r with
  | nil => exact .nil
  | @cons p q ps qs h t ih =>
    rw [List.map_cons, List.map_cons]
    refine .cons ?_ ih
    obtain ⟨h1, h2⟩ := h
    by_cases e : p.1 = k
    · rw [if_pos e, if_pos (h1.symm.trans e)]; exact ⟨h1, ry⟩
    · rw [if_neg e, if_neg (fun z => e (h1.trans z))]; exact ⟨h1, h2⟩
theorem KV.put {kvs : List (κ × V)} {vs : List (κ × Value)} (r : KV kvs vs) (k : κ) {y : V} {u : Value} (ry : RelV y u) : KV (putK kvs k y) (stored vs k u) := by
  unfold putK stored
  rw [r.any k]
  by_cases e : (vs.any fun kv => decide (kv.1 = k)) = true
  · rw [if_pos e, if_pos e]; exact r.repl k ry
  · rw [if_neg e, if_neg e]; exact Paired.snoc r ⟨rfl, ry⟩
theorem KV.drop {kvs : List (κ × V)} {vs : List (κ × Value)} (r : KV kvs vs) (k : κ) : KV (dropK kvs k) (without vs k) := by
  unfold KV at r ⊢
  unfold dropK without
  induction r with
  | nil => exact .nil
  | @cons p q ps qs h t ih =>
    obtain ⟨h1, h2⟩ := h
    rw [List.filter_cons, List.filter_cons]
    by_cases e : p.1 = k
    · have a : ¬ decide (p.1 ≠ k) = true := by simp [e]
      have b : ¬ decide (q.1 ≠ k) = true := by simp [h1.symm.trans e]
      rw [if_neg a, if_neg b]; exact ih
    · have e' : ¬ q.1 = k := fun z => e (h1.trans z)
      have a : decide (p.1 ≠ k) = true := by simp [e]
      have b : decide (q.1 ≠ k) = true := by simp [e']
      rw [if_pos a, if_pos b]; exact .cons ⟨h1, h2⟩ ih
theorem KV.keys {kvs : List (κ × V)} {vs : List (κ × Value)} (r : KV kvs vs) : kvs.map (·.1) = vs.map (·.1) := by
  unfold KV at r
  induction r with
  | nil => rfl
  | cons h t ih => rw [List.map_cons, List.map_cons, ih, h.1]
theorem KV.length {kvs : List (κ × V)} {vs : List (κ × Value)} (r : KV kvs vs) : kvs.length = vs.length := Paired.length r
end
theorem kV_is {P : Program} {w : World} {k : Key} {u : Value} (r : RelV (kV k) u) : (mixKind P w).is k u = true := by
  cases k with
  | inl i => obtain ⟨t, e⟩ := (show ∃ t, u = Value.int i t from r); subst e; exact mixKind_int P w i t
  | inr x => obtain ⟨t, e⟩ := (show ∃ t, u = Value.str x t from r); subst e; exact mixKind_str P w x t
theorem items_are {P : Program} {w : World} : ∀ {ks : List Key} {us : List Value}, Vals (ks.map kV) us → ItemsAre (mixKind P w) ks us
  | [], _, r => by rw [List.map_nil] at r; cases r; exact .nil
  | k :: ks, _, r => by
    rw [List.map_cons] at r
    cases r with
    | cons h t => exact .cons (kV_is h) (items_are t)
abbrev KT (H : Hp) : List (List Key × V) → List (List Key × Addr × Value) → Prop := Paired fun p q => p.1 = q.1 ∧ H q.2.1 = some (.tup (p.1.map kV)) ∧ RelV p.2 q.2.2
theorem KT.val {H : Hp} {kvs : List (List Key × V)} {xs : List (List Key × Addr × Value)} (r : KT H kvs xs) (k : List Key) : RelO (valV kvs k) ((atKey xs k).map (·.2)) := by
  induction r with
  | nil => exact True.intro
  | @cons p q ps qs h t ih =>
    obtain ⟨h1, _, h2⟩ := h
    by_cases e : p.1 = k
    · have e' : q.1 = k := h1.symm.trans e
      have b : atKey (q :: qs) k = some q.2 := by simp [atKey, List.find?_cons, e']
      rw [valV_pos e, b]; exact h2
    · have e' : ¬ q.1 = k := fun z => e (h1.trans z)
      have b : atKey (q :: qs) k = atKey qs k := by simp [atKey, List.find?_cons, e']
      rw [valV_neg e, b]; exact ih
theorem KT.repl {H : Hp} {kvs : List (List Key × V)} {xs : List (List Key × Addr × Value)} (r : KT H kvs xs) (k : List Key) {y : V} {u : Value} (ry : RelV y u) :
    KT H (kvs.map fun kv => if kv.1 = k then (kv.1, y) else kv) (xs.map (putAt k u)) := by
  induction r with
  | nil => exact .nil
  | @cons p q ps qs h t ih =>
    rw [List.map_cons, List.map_cons]
    refine .cons ?_ ih
    obtain ⟨h1, h2, h3⟩ := h
    unfold putAt
    by_cases e : p.1 = k
    · rw [if_pos e, if_pos (h1.symm.trans e)]; exact ⟨h1, h2, ry⟩
    · rw [if_neg e, if_neg (fun z => e (h1.trans z))]; exact ⟨h1, h2, h3⟩
theorem KT.put {H : Hp} {kvs : List (List Key × V)} {xs : List (List Key × Addr × Value)} (r : KT H kvs xs) (k : List Key) {b : Addr} {y : V} {u : Value} (hb : H b = some (.tup (k.map kV))) (ry : RelV y u) :
    KT H (putK kvs k y) (storedH xs k b u) := by
  have e : (kvs.any fun kv => decide (kv.1 = k)) = (atKey xs k).isSome := by
    rw [valV_any, (r.val k).isSome_eq, Option.isSome_map]
  unfold putK storedH
  rw [e]
  by_cases q : (atKey xs k).isSome = true
  · rw [if_pos q, if_pos q]; exact r.repl k ry
  · rw [if_neg q, if_neg q]; exact Paired.snoc r ⟨rfl, hb, ry⟩
theorem KT.keeps {H H' : Hp} {kvs : List (List Key × V)} {xs : List (List Key × Addr × Value)} (r : KT H kvs xs) (ht : ∀ b ys, H b = some (.tup ys) → H' b = some (.tup ys)) : KT H' kvs xs :=
  Paired.mapP r fun _ _ z => ⟨z.1, ht _ _ z.2.1, z.2.2⟩
section
variable {P : Program} {w : World} {H : Hp} {h : Heap} {a : Addr}
theorem rd_of {u : HO} (ok : HOk P w H h) (e : Rd H a u) : ObjOk P w H h a u := e.ok ok
theorem key_of {ks : List Key} (ok : HOk P w H h) (e : H a = some (.tup (ks.map kV))) : (tupleKind (mixKind P w)).is h ks a := by
  obtain ⟨_, its, r, o, h1, h2, n, h3⟩ := (show ObjOk P w H h a (.tup (ks.map kV)) from ok a _ e)
  exact ⟨o, its.toArray, n, h1, h2, h3, by simpa using items_are r⟩
theorem dt_rd {kvs : List (List Key × V)} (ok : HOk P w H h) (e : Rd H a (.dT kvs)) : kvs.length ≤ sizeLine ∧ (a == sysModules) = false ∧
    ∃ xs, KT H kvs xs ∧ h.DictOfH (tupleKind (mixKind P w)) a xs := by
  obtain ⟨z, y, xs, r, o, es, ep, h1, h2, h3, h4, h5⟩ := (show ObjOk P w H h a (.dT kvs) from rd_of ok e)
  refine ⟨z, y, xs, r, o, es, ep, h1, h2, h3, h4, fun x hx => ?_, h5⟩
  have all : ∀ {l : List (List Key × V)} {m : List (List Key × Addr × Value)}, KT H l m → ∀ x ∈ m, (tupleKind (mixKind P w)).is h x.1 x.2.1 := by
    intro l m q
    induction q with
    | nil => intro x hx; exact nomatch hx
    | @cons p q ps qs hq t ih =>
      intro x hx
      rcases List.mem_cons.mp hx with e | hx
      · subst e
        exact key_of ok (by rw [← hq.1]; exact hq.2.1)
      · exact ih x hx
  exact all r x hx
theorem dt_of {kvs : List (List Key × V)} (ok : HOk P w H h) (e : H a = some (.dT kvs)) : kvs.length ≤ sizeLine ∧ (a == sysModules) = false ∧
    ∃ xs, KT H kvs xs ∧ h.DictOfH (tupleKind (mixKind P w)) a xs := dt_rd ok (.inl e)
end
def DGet (H : Hp) (a : Addr) (y : V) (r : Option V) : Prop :=
  (∃ kvs k, Rd H a (.dK kvs) ∧ y = kV k ∧ r = valV kvs k) ∨ ∃ kvs k b, Rd H a (.dT kvs) ∧ y = .ref b ∧ H b = some (.tup (k.map kV)) ∧ r = valV kvs k
def DPut (H : Hp) (a : Addr) (y v : V) (H' : Hp) : Prop :=
  (∃ kvs k, H a = some (.dK kvs) ∧ y = kV k ∧ kvs.length < sizeLine ∧ H' = upd H a (.dK (putK kvs k v))) ∨
  ∃ kvs k b, H a = some (.dT kvs) ∧ y = .ref b ∧ H b = some (.tup (k.map kV)) ∧ kvs.length < sizeLine ∧ H' = upd H a (.dT (putK kvs k v))
theorem DGet.k {H : Hp} {a : Addr} {kvs : List (Key × V)} {k : Key} (e : H a = some (.dK kvs)) : DGet H a (kV k) (valV kvs k) := .inl ⟨kvs, k, .inl e, rfl, rfl⟩
theorem DGet.t {H : Hp} {a b : Addr} {kvs : List (List Key × V)} {k : List Key} (e : H a = some (.dT kvs)) (eb : H b = some (.tup (k.map kV))) : DGet H a (.ref b) (valV kvs k) := .inr ⟨kvs, k, b, .inl e, rfl, eb, rfl⟩
theorem DPut.k {H : Hp} {a : Addr} {kvs : List (Key × V)} {k : Key} {v : V} (e : H a = some (.dK kvs)) (hl : kvs.length < sizeLine) : DPut H a (kV k) v (upd H a (.dK (putK kvs k v))) := .inl ⟨kvs, k, e, rfl, hl, rfl⟩
theorem DPut.t {H : Hp} {a b : Addr} {kvs : List (List Key × V)} {k : List Key} {v : V} (e : H a = some (.dT kvs)) (eb : H b = some (.tup (k.map kV))) (hl : kvs.length < sizeLine) :
    DPut H a (.ref b) v (upd H a (.dT (putK kvs k v))) := .inr ⟨kvs, k, b, e, rfl, eb, hl, rfl⟩
section
variable {X : Cx} {pins : List (Addr × Obj)} {σ : St} {H : Hp} {s : Shared} {a : Addr} {y v : V} {u r : Value} {o : Option V} {A : Around} {E : Value → Shared → Prop}
end
section
variable {X : Cx} {pins : List (Addr × Obj)} {σ : St} {H : Hp} {s : Shared} {a : Addr} {kvs : List (Key × V)} {k : Key} {u : Value} {A : Around} {E : Value → Shared → Prop}
end
section
variable {X : Cx} {o i e value : Expr} {pos pos' tpos : Pos} {td ty tv : TE}
end
section
variable {X : Cx} {pos : Pos}
end
def tPairs : List (TE × TE) → St → Hp → (List (V × V) → Hp → Prop) → Prop
  | [], _, H, Q => Q [] H
  | (tk, tv) :: r, σ, H, Q => tk σ H fun x H1 => tv σ H1 fun y H2 => tPairs r σ H2 fun ps H3 => Q ((x, y) :: ps) H3
abbrev VV : List (V × V) → List (Value × Value) → Prop := Paired fun p q => RelV p.1 q.1 ∧ RelV p.2 q.2
def PPs (X : Cx) (pos : Pos) (keys : List (Option Expr)) (values : List Expr) (trs : List (TE × TE)) : Prop :=
  ∀ (pins : List (Addr × Obj)) (s : Shared) (σ : St) (H : Hp) (Q : List (V × V) → Hp → Prop), Inv X pins σ H s → tPairs trs σ H Q →
    wpAny (model X.prog X.w) X.A (evalPairs (pairTrees keys values X.env pos)) (fun vs s' => ∃ ps H', Inv X pins σ H' s' ∧ VV ps vs ∧ Q ps H') X.xe s
structure M1 (X : Cx) (o : Expr) (m : Str) (apos : Pos) (e : Expr) (cpos : Pos) : Prop where
  base : attributeBase o m X.env (eval o X.env) = eval o X.env
  few : ((backTo cpos (starEach [e] X.env)).all (fun x => !x.1) && (backToKw cpos (keywordEach [] X.env)).all (fun x => x.1.isSome)
    && decide (([e] : List Expr).length + ([] : List Keyword).length + (if ([] : List Keyword).isEmpty then 0 else 1) < 30)) = true
  line : (apos.endLine == cpos.line) = true
  trees : backTo cpos (starEach [e] X.env) = [(false, eval e X.env)]
structure M2 (X : Cx) (o : Expr) (m : Str) (apos : Pos) (e f : Expr) (cpos : Pos) : Prop where
  base : attributeBase o m X.env (eval o X.env) = eval o X.env
  few : ((backTo cpos (starEach [e, f] X.env)).all (fun x => !x.1) && (backToKw cpos (keywordEach [] X.env)).all (fun x => x.1.isSome)
    && decide (([e, f] : List Expr).length + ([] : List Keyword).length + (if ([] : List Keyword).isEmpty then 0 else 1) < 30)) = true
  line : (apos.endLine == cpos.line) = true
  trees : backTo cpos (starEach [e, f] X.env) = [(false, eval e X.env), (false, eval f X.env)]
section
variable {X : Cx} {pins : List (Addr × Obj)} {σ : St} {H : Hp} {s : Shared} {a : Addr} {y d : V} {u r : Value} {o : Option V} {A : Around} {E : Value → Shared → Prop}
end
section
variable {X : Cx} {o e f : Expr} {apos cpos : Pos} {td ty tx : TE}
end
section
variable {X : Cx} {pins : List (Addr × Obj)} {σ : St} {H : Hp} {s : Shared} {a : Addr} {kvs : List (Key × V)} {A : Around} {E : Value → Shared → Prop}
end
section
variable {X : Cx} {pins : List (Addr × Obj)} {σ : St} {H : Hp} {s : Shared} {a : Addr} {y : V} {u : Value} {A : Around} {E : Value → Shared → Prop}
end
end L2
namespace L2
open PySem PySem.Spec PyProof.Rows
section
variable {prog : Program} {w : World} {A : Around} {E : Value → Shared → Prop}
end
section
variable {X : Cx}
end
end L2
namespace L2
open PySem PySem.Spec PyProof.Rows
section
variable {X : Cx} {pins : List (Addr × Obj)} {σ : St} {H : Hp} {s : Shared} {h' : Heap}
theorem Inv.turnedL {t' : Nat} {ch : List Addr} (I : Inv X pins σ H s) (k : ∀ b o, b ∉ ch → s.heap.get? b = some o → h'.get? b = some o) (hf : ∀ b ∈ ch, FpOk X pins H b) : Inv X pins σ H { s with heap := h', toks := t' } := by
  have nit : ∀ b u, H b = some u → b ∉ ch := fun b u e z => by
    have q := (hf b z).1
    rw [q] at e; cases e
  refine I.step (g' := s.gens) (d' := s.drawn) (ch := ch) (fun b hb => ⟨(hf b hb).2.2.2.1, (hf b hb).2.1, (hf b hb).2.2.2.2.1, (hf b hb).2.2.2.2.2⟩) (fun b o _ _ hc e _ => k b o hc e) (fun b o _ _ hc e _ => ⟨o.slots, k b o hc e⟩)
    (fun _ _ _ _ n => n) (fun b o hc e => ⟨o, k b o hc e⟩) (fun _ _ e => e) (fun _ _ _ e => e) (fun b ps e => ⟨#[], by rw [e]; simp⟩) (fun m hm => ?_) (fun b u e => ?_) I.bare
  · obtain ⟨o, es, ep, ho, r⟩ := hm
    exact ⟨o, es, ep, k _ o (fun z => (hf _ z).2.1 rfl) ho, r⟩
  · refine (I.hok b u e).stay (fun c v hc q => k c v ?_ q) (fun _ q => q) fun _ _ q => q
    rcases hc with z | z
    · rw [z]; exact nit b u e
    · exact nit c _ z
theorem Inv.turnedNew {t' : Nat} {ch : List Addr} {T : Addr} {ob : HO} (I : Inv X pins σ H s) (k : ∀ b o, b ∉ ch → s.heap.get? b = some o → h'.get? b = some o) (hf : ∀ b ∈ ch, FpOk X pins H b) (hT : s.heap.objs.size ≤ T)
    (new : ObjOk X.prog X.w (upd H T ob) h' T ob) : Inv X pins σ (upd H T ob) { s with heap := h', toks := t' } := by
  have hn : H T = none := I.hok.fresh hT
  have nit : ∀ b u, H b = some u → b ∉ ch := fun b u e z => by
    have q := (hf b z).1
    rw [q] at e; cases e
  refine I.step (g' := s.gens) (d' := s.drawn) (ch := ch) (fun b hb => ⟨(hf b hb).2.2.2.1, (hf b hb).2.1, (hf b hb).2.2.2.2.1, (hf b hb).2.2.2.2.2⟩) (fun b o _ _ hc e _ => k b o hc e) (fun b o _ _ hc e _ => ⟨o.slots, k b o hc e⟩)
    (fun b o _ e n => ?_) (fun b o hc e => ⟨o, k b o hc e⟩) (fun b xs e => ?_) (fun b o u e => ?_) (fun b ps e => ⟨#[], ?_⟩) (fun m hm => ?_) (fun b u e => ?_) I.bare
  · rw [upd_ne (Nat.ne_of_lt (Nat.lt_of_lt_of_le (Heap.lt_size e) hT))]; exact n
  · rw [upd_ne (ne_of_none e hn)]; exact e
  · rw [upd_ne (ne_of_none e hn)]; exact e
  · rw [upd_ne (ne_of_none e hn), e]; simp
  · obtain ⟨o, es, ep, ho, r⟩ := hm
    exact ⟨o, es, ep, k _ o (fun z => (hf _ z).2.1 rfl) ho, r⟩
  · by_cases hb : b = T
    · subst hb
      rw [upd_same] at e
      cases e
      exact new
    · rw [upd_ne hb] at e
      refine (I.hok b u e).stay (fun c v hc q => k c v ?_ q) (fun c q => by rw [upd_ne (ne_of_none q hn)]; exact q) fun c xs q => by rw [upd_ne (ne_of_none q hn)]; exact q
      rcases hc with z | z
      · rw [z]; exact nit b u e
      · exact nit c _ z
end
section
variable {X : Cx}
end
def RgC (i j c : Int) (n : Nat) : Prop := c ≠ 0 ∧ c.natAbs < 1073741824 ∧ Builtin.Range.small i j c = true ∧ Builtin.Range.rangeSize i j c = n
theorem RgC.neg {i j : Int} (ha : -(2 ^ 62) ≤ i) (ha' : i < 2 ^ 62) (hb : -(2 ^ 62) ≤ j) (hb' : j < 2 ^ 62) : RgC i j (-1) (i - j).toNat :=
  ⟨by decide, by decide, PySem.W.small_down ha ha' hb hb', PySem.W.rangeSize_downNat i j⟩
section
variable {X : Cx} {tg : Expr}
end
section
variable {X : Cx} {tg : Expr}
end
section
variable {prog : Program} {w : World} {A : Around} {E : Value → Shared → Prop} {s : Shared}
end
theorem paired_get {α β : Type} {G : α → β → Prop} {l₁ : List α} {l₂ : List β} (h : Paired G l₁ l₂) : ∀ {i : Nat} {a : α}, l₁[i]? = some a → ∃ b, l₂[i]? = some b ∧ G a b := by
  induction h with
  | nil => intro i a e; simp at e
  | @cons a b l₁ l₂ r t ih =>
    intro i a' e
    cases i with
    | zero =>
      simp only [List.getElem?_cons_zero, Option.some.injEq] at e
      subst e
      exact ⟨b, rfl, r⟩
    | succ j =>
      simp only [List.getElem?_cons_succ] at e ⊢
      exact ih e
section
variable {X : Cx} {pins : List (Addr × Obj)} {σ : St} {H : Hp} {s : Shared} {d : Addr} {o : Obj}
end
section
variable {P : Program} {w : World} {K : PySem.W.Frag} {tg : Expr} {d : Addr} {o : Obj} {es : Array DictEntry} {ep : Nat}
end
section
variable {X : Cx} {tg e : Expr} {td : TE} {apos cpos : Pos}
end
theorem boot_zip5 : bootBuiltins "zip" = some (.type "zip") := by decide +kernel
end L2
section 
namespace Bits
open PySem PyProof.Rows
end Bits
end 
section 
namespace TL
open PySem PySem.Builtin PySem.Builtin.Str PySem.StrLaws
abbrev tl (x : Str) : List Nat := x.cps.toList
theorem len_tl (x : Str) : x.length = (tl x).length := by simp [tl, Str.length]
theorem ext_tl {x y : Str} (h : tl x = tl y) : x = y := Str.ext' (Array.toList_inj.mp h)
theorem tl_append (x y : Str) : tl (x ++ y) = tl x ++ tl y := by
  show (x ++ y).cps.toList = _
  rw [Str.cps_append, Array.toList_append]
theorem map_tl_inj : ∀ {l m : List Str}, l.map tl = m.map tl → l = m
  | [], [], _ => rfl
  | [], _ :: _, h => by simp at h
  | _ :: _, [], h => by simp at h
  | x :: l, y :: m, h => by
    rw [List.map_cons, List.map_cons] at h
    injection h with h1 h2
    rw [ext_tl h1, map_tl_inj h2]
def pre (S l : List Nat) : Bool := l.take S.length == S
def spl (S : List Nat) : Nat → List Nat → List Nat → List (List Nat)
  | _, acc, [] => [acc]
  | 0, acc, c :: r => if pre S (c :: r) = true then acc :: spl S (S.length - 1) [] r else spl S 0 (acc ++ [c]) r
  | k + 1, acc, _ :: r => spl S k acc r
def par (S : List Nat) : List Nat → List Nat → Option (List Nat × List Nat)
  | _, [] => none
  | acc, c :: r => if pre S (c :: r) = true then some (acc, (c :: r).drop S.length) else par S (acc ++ [c]) r
theorem spl_nil (S : List Nat) (k : Nat) (acc : List Nat) : spl S k acc [] = [acc] := by cases k <;> rfl
theorem spl_hit {S acc r : List Nat} {c : Nat} (h : pre S (c :: r) = true) : spl S 0 acc (c :: r) = acc :: spl S (S.length - 1) [] r := by
  show (if pre S (c :: r) = true then acc :: spl S (S.length - 1) [] r else spl S 0 (acc ++ [c]) r) = _
  rw [if_pos h]
theorem spl_miss {S acc r : List Nat} {c : Nat} (h : pre S (c :: r) = false) : spl S 0 acc (c :: r) = spl S 0 (acc ++ [c]) r := by
  show (if pre S (c :: r) = true then acc :: spl S (S.length - 1) [] r else spl S 0 (acc ++ [c]) r) = _
  rw [if_neg (by rw [h]; exact Bool.false_ne_true)]
theorem spl_pass (S : List Nat) : ∀ (k : Nat) (acc l : List Nat), spl S k acc l = spl S 0 acc (l.drop k)
  | 0, _, _ => by rw [List.drop_zero]
  | k + 1, acc, [] => by rw [List.drop_nil, spl_nil, spl_nil]
  | k + 1, acc, c :: r => by
    show spl S k acc r = spl S 0 acc (r.drop k)
    exact spl_pass S k acc r
theorem pre_nil {S : List Nat} (hS : S ≠ []) : pre S [] = false := by
  cases S with
  | nil => exact absurd rfl hS
  | cons s S => rfl
theorem pre_of_head {s c : Nat} (S r : List Nat) (h : c ≠ s) : pre (s :: S) (c :: r) = false := by
  cases hp : pre (s :: S) (c :: r) with
  | false => rfl
  | true =>
    have e : (c :: r).take (s :: S).length = s :: S := eq_of_beq hp
    rw [List.length_cons, List.take_succ_cons] at e
    injection e with e1 e2
    exact absurd e1 h
theorem pre_self (S r : List Nat) : pre S (S ++ r) = true := by
  show ((S ++ r).take S.length == S) = true
  have e : (S ++ r).take S.length = S := List.take_left
  rw [e] <;> exact beq_self_eq_true S
theorem getElem_drop_cons {L : List Nat} {a : Nat} (h : a < L.length) : ∃ c, L.drop a = c :: L.drop (a + 1) := ⟨L[a], List.drop_eq_getElem_cons h⟩
theorem spl_run (S L : List Nat) : ∀ (m a : Nat) (acc : List Nat), a + m ≤ L.length → (∀ k, a ≤ k → k < a + m → pre S (L.drop k) = false) →
    spl S 0 acc (L.drop a) = spl S 0 (acc ++ (L.drop a).take m) (L.drop (a + m))
  | 0, a, acc, _, _ => by rw [List.take_zero, List.append_nil, Nat.add_zero]
  | m + 1, a, acc, h, hn => by
    have hlt : a < L.length := by omega
    obtain ⟨c, e⟩ := getElem_drop_cons hlt
    have h0 := hn a (Nat.le_refl _) (by omega)
    have ih := spl_run S L m (a + 1) (acc ++ [c]) (by omega) (fun k h1 h2 => hn k (by omega) (by omega))
    have e2 : a + 1 + m = a + (m + 1) := by omega
    rw [e2] at ih
    rw [e] at h0
    rw [e, spl_miss h0, ih, List.take_succ_cons, List.append_assoc] <;> rfl
theorem drop_two (L : List Nat) (a b : Nat) : (L.drop a).drop b = L.drop (a + b) := by
  first
    | rw [List.drop_drop]
    | rw [List.drop_drop, Nat.add_comm]
theorem spl_at {S L : List Nat} (hS : S ≠ []) {c : Nat} {acc : List Nat} (h : pre S (L.drop c) = true) : spl S 0 acc (L.drop c) = acc :: spl S 0 [] (L.drop (c + S.length)) := by
  rw [← drop_two]
  cases e : L.drop c with
  | nil => rw [e, pre_nil hS] at h; cases h
  | cons d r =>
    rw [e] at h
    rw [spl_hit h, spl_pass]
    cases S with
    | nil => exact absurd rfl hS
    | cons s S => rfl
theorem at_iff {x y : Str} (hy : tl y ≠ []) (i : Nat) : At x y x.length i ↔ pre (tl y) ((tl x).drop i) = true := by
  have hx := len_tl x
  have hl := len_tl y
  constructor
  · intro h
    have h2 := h.2
    rw [subAt_eq, hl] at h2
    exact h2
  · intro h
    have e : ((tl x).drop i).take (tl y).length = tl y := eq_of_beq h
    have e1 := congrArg List.length e
    rw [List.length_take, List.length_drop] at e1
    have e2 : 0 < (tl y).length := List.length_pos_iff.mpr hy
    refine ⟨by omega, ?_⟩
    rw [subAt_eq, hl]
    exact h
theorem no_at {x y : Str} (hy : tl y ≠ []) {i : Nat} (h : ¬ At x y x.length i) : pre (tl y) ((tl x).drop i) = false := by
  cases hp : pre (tl y) ((tl x).drop i) with
  | false => rfl
  | true => exact absurd ((at_iff hy i).mpr hp) h
theorem len1 {y : Str} (hy : tl y ≠ []) : 1 ≤ y.length := by
  have e2 : 0 < (tl y).length := List.length_pos_iff.mpr hy
  rw [len_tl y]
  exact e2
theorem tl_strSub (x : Str) (i j : Nat) : tl (strSub x i j) = ((tl x).drop i).take (j - i) := strSub_toList x i j
theorem tl_strSub_end (x : Str) (i : Nat) : tl (strSub x i x.length) = (tl x).drop i := by
  rw [tl_strSub, len_tl x]
  exact List.take_of_length_le (by rw [List.length_drop] <;> omega)
theorem parts_spl {x y : Str} (hy : tl y ≠ []) : ∀ (cuts : List Nat) (a f : Nat), a ≤ (tl x).length → ChainG x y x.length a cuts f → (∀ k, f ≤ k → ¬ At x y x.length k) →
    (partsFrom x y.length a cuts).map tl = spl (tl y) 0 [] ((tl x).drop a)
  | [], a, f, ha, h, hn => by
    have e : f = a := h
    subst e
    show [tl (strSub x f x.length)] = _
    have run := spl_run (tl y) (tl x) ((tl x).length - f) f [] (by omega) (fun k h1 _ => no_at hy (hn k h1))
    have e2 : f + ((tl x).length - f) = (tl x).length := by omega
    rw [e2, List.drop_length, spl_nil, List.nil_append, List.take_of_length_le (by rw [List.length_drop] <;> omega)] at run
    rw [run, tl_strSub_end]
  | c :: r, a, f, ha, h, hn => by
    obtain ⟨h1, h2, h3, h4⟩ := h
    have hc : c + y.length ≤ x.length := h2.1
    have hx := len_tl x
    have hl := len_tl y
    have ih := parts_spl hy r (c + y.length) f (by omega) h4 hn
    show tl (strSub x a c) :: (partsFrom x y.length (c + y.length) r).map tl = _
    have run := spl_run (tl y) (tl x) (c - a) a [] (by omega) (fun k k1 k2 => no_at hy (h3 k k1 (by omega)))
    have e2 : a + (c - a) = c := by omega
    rw [e2, List.nil_append, spl_at hy ((at_iff hy c).mp h2)] at run
    rw [run, ih, tl_strSub, hl]
theorem split_spl (x y : Str) (hy : tl y ≠ []) (hk : ¬ Builtin.Str.strKind x < Builtin.Str.strKind y) : (Txt.split x y).map tl = spl (tl y) 0 [] (tl x) := by
  obtain ⟨f, g, hn⟩ := occ_tight x y (len1 hy)
  have key := parts_spl hy _ 0 f (Nat.zero_le _) g hn
  rw [List.drop_zero] at key
  have none_case : occurrences x y 0 x.length (x.length + 1) = [] → [x].map tl = spl (tl y) 0 [] (tl x) := fun ho => by
    rw [ho] at key
    rw [← key]
    show [tl x] = [tl (strSub x 0 x.length)]
    rw [sub_whole]
  unfold Txt.split
  by_cases h1 : (decide (x.length < y.length) || decide (Builtin.Str.strKind x < Builtin.Str.strKind y)) = true
  · rw [if_pos h1]
    have hlt : x.length < y.length := by
      simp only [Bool.or_eq_true, decide_eq_true_eq] at h1
      rcases h1 with h | h
      · exact h
      · exact absurd h hk
    refine none_case ?_
    cases ho : occurrences x y 0 x.length (x.length + 1) with
    | nil => rfl
    | cons c r =>
      rw [ho] at g
      have hc : c + y.length ≤ x.length := g.2.1.1
      omega
  · rw [if_neg h1]
    by_cases h2 : (occurrences x y 0 x.length (x.length + 1)).isEmpty = true
    · rw [if_pos h2]
      exact none_case (List.isEmpty_iff.mp h2)
    · rw [if_neg h2, partsBetween_eq]
      exact key
theorem kind_ok {x y : Str} (h : y.cps.all (· < 256) = true) : ¬ Builtin.Str.strKind x < Builtin.Str.strKind y := by
  have e : Builtin.Str.strKind y = 1 := by unfold PySem.Builtin.Str.strKind; rw [if_pos h]
  rw [e]
  unfold PySem.Builtin.Str.strKind
  split
  · omega
  · split <;> omega
theorem spl_part {S p rest acc : List Nat} (hS : S ≠ []) (h : ∀ i, i < p.length → pre S ((p ++ (S ++ rest)).drop i) = false) :
    spl S 0 acc (p ++ (S ++ rest)) = (acc ++ p) :: spl S 0 [] rest := by
  have run := spl_run S (p ++ (S ++ rest)) p.length 0 acc (by rw [List.length_append]; omega) (fun k _ k2 => h k (by omega))
  have ed : (p ++ (S ++ rest)).drop p.length = S ++ rest := List.drop_left
  rw [List.drop_zero, Nat.zero_add, List.take_left] at run
  rw [run, spl_at hS (by rw [ed]; exact pre_self S rest), ← drop_two, ed, List.drop_left]
theorem spl_last {S p acc : List Nat} (h : ∀ i, i < p.length → pre S (p.drop i) = false) : spl S 0 acc p = [acc ++ p] := by
  have run := spl_run S p p.length 0 acc (by omega) (fun k _ k2 => h k (by omega))
  rw [List.drop_zero, Nat.zero_add, List.drop_length, spl_nil, List.take_length] at run
  exact run
theorem free_of {s : Nat} {S p q : List Nat} (h : s ∉ p) : ∀ i, i < p.length → pre (s :: S) ((p ++ q).drop i) = false := fun i hi => by
  have hlt : i < (p ++ q).length := by rw [List.length_append]; omega
  have e : (p ++ q).drop i = (p ++ q)[i] :: (p ++ q).drop (i + 1) := List.drop_eq_getElem_cons hlt
  rw [e]
  refine pre_of_head _ _ fun z => h ?_
  have e1 : (p ++ q)[i] = p[i] := List.getElem_append_left hi
  rw [← z, e1]
  exact List.getElem_mem hi
theorem spl_part1 {s : Nat} {S p rest acc : List Nat} (h : s ∉ p) : spl (s :: S) 0 acc (p ++ (s :: S ++ rest)) = (acc ++ p) :: spl (s :: S) 0 [] rest :=
  spl_part (by simp) (free_of h)
theorem spl_last1 {s : Nat} {S p acc : List Nat} (h : s ∉ p) : spl (s :: S) 0 acc p = [acc ++ p] := spl_last fun i hi => by
  have z := free_of (S := S) (q := []) h i hi
  rw [List.append_nil] at z
  exact z
def joinL (S : List Nat) : List (List Nat) → List Nat
  | [] => []
  | [p] => p
  | p :: q :: r => p ++ (S ++ joinL S (q :: r))
theorem tl_join (y : Str) : ∀ parts : List Str, tl (Str.join y parts) = joinL (tl y) (parts.map tl)
  | [] => rfl
  | [_] => rfl
  | x :: z :: r => by
    show tl (x ++ y ++ Str.join y (z :: r)) = tl x ++ (tl y ++ joinL (tl y) ((z :: r).map tl))
    rw [tl_append, tl_append, tl_join y (z :: r), List.append_assoc]
theorem spl_join {s : Nat} {S : List Nat} : ∀ {parts : List (List Nat)}, parts ≠ [] → (∀ p ∈ parts, s ∉ p) → spl (s :: S) 0 [] (joinL (s :: S) parts) = parts
  | [], h, _ => absurd rfl h
  | [p], _, hp => by
    show spl (s :: S) 0 [] p = [p]
    rw [spl_last1 (hp p (List.mem_singleton.mpr rfl)), List.nil_append]
  | p :: q :: r, _, hp => by
    show spl (s :: S) 0 [] (p ++ (s :: S ++ joinL (s :: S) (q :: r))) = p :: q :: r
    rw [spl_part1 (hp p (List.mem_cons_self ..)), List.nil_append, spl_join (by simp) fun z hz => hp z (List.mem_cons_of_mem _ hz)]
theorem join_eq (y : Str) (parts : List Str) : Txt.join y parts = Str.join y parts := glued_eq_join y parts
theorem split_join {y : Str} {s : Nat} {S : List Nat} (ey : tl y = s :: S) (hk : y.cps.all (· < 256) = true) {parts : List Str} (hne : parts ≠ []) (hp : ∀ p ∈ parts, s ∉ tl p) :
    Txt.split (Txt.join y parts) y = parts := by
  refine map_tl_inj ?_
  rw [split_spl _ y (by rw [ey]; simp) (kind_ok hk), join_eq, tl_join, ey]
  refine spl_join (fun e => hne (List.map_eq_nil_iff.mp e)) fun p h => ?_
  obtain ⟨z, hz, rfl⟩ := List.mem_map.mp h
  exact hp z hz
end TL
end 
namespace L2
open PySem PySem.Spec PyProof.Rows
theorem vals_strs : ∀ l : List (Str × Tok), Vals ((l.map (·.1)).map V.str) (strValues l)
  | [] => .nil
  | p :: r => .cons ⟨p.2, rfl⟩ (vals_strs r)
def rNewStrs (ys : List Str) : Hp → VK → Prop := fun H Q => ∀ p, H p = none → Q (.ref p) (upd H p (.lst (ys.map V.str)))
section
variable {X : Cx} {pins : List (Addr × Obj)} {σ : St} {H : Hp} {s : Shared} {Q : VK}
theorem laid_strs {l : List (Str × Tok)} {ys : List Str} {k : Nat} (I : Inv X pins σ H s) (e : l.map (·.1) = ys) (hz : ys.length ≤ sizeLine) (h : rNewStrs ys H Q) :
    EP X pins σ Q (.ref s.heap.objs.size) { s with toks := k, heap := s.heap.push { cls := .type "list", data := .seq (strValues l).toArray } } := by
  have hp := I.hok.fresh (Nat.le_refl _)
  refine ⟨.ref s.heap.objs.size, upd H s.heap.objs.size (.lst (ys.map V.str)), I.laid (fun b u q => Heap.get?_push_of_some _ q) (Nat.le_refl _) ⟨by rw [List.length_map]; exact hz, strValues l, _, ?_, Heap.get?_push_size _ rfl⟩, rfl, h _ hp⟩
  rw [← e]
  exact vals_strs l
end
section
variable {X : Cx}
theorem mt_split : MtR X "str.split" (fun x xs H Q => ∃ a b, x = .str a ∧ xs = [.str b] ∧ (b.length == 0) = false ∧ a.length + 2 ≤ sizeLine ∧ rNewStrs (Txt.split a b) H Q) := by
  intro pins s σ H x xs v us Q I rx rs h
  obtain ⟨a, b, rfl, rfl, hb, hz, h⟩ := h
  obtain ⟨t, rfl⟩ := rx
  cases rs with
  | cons r1 rs =>
    cases rs
    obtain ⟨u, rfl⟩ := r1
    have hl : (Txt.split a b).length ≤ sizeLine := Nat.le_trans (PyProof.Rows.split_le a b) hz
    have hn : (Builtin.Str.partsBetween a (Builtin.Str.occurrences a b 0 a.length (a.length + 1)) b.length).length ≤ sizeLine := by
      have e1 := StrLaws.occ_length_le a b 0 a.length (a.length + 1)
      rw [length_partsBetween]; omega
    cases h1 : (decide (a.length < b.length) || decide (Builtin.Str.strKind a < Builtin.Str.strKind b))
    · cases hf : (Builtin.Str.occurrences a b 0 a.length (a.length + 1)).isEmpty
      · refine call_meets F.slot_str_split (typeIs_str _ _ _) F.entry_str_split (F.args_str_split_2 _ _) (meets_str_split_sep a b t u h1 hb hf (by omega) hn) ?_
        show EP X pins σ Q (.ref s.heap.objs.size) { s with toks := _, heap := s.heap.push { cls := .type "list", data := .seq (strsFrom s.toks (Builtin.Str.partsBetween a (Builtin.Str.occurrences a b 0 a.length (a.length + 1)) b.length)).toArray } }
        rw [strsFrom_eq]
        exact laid_strs (ys := Txt.split a b) I ((numbered_texts _ _).trans ((if_neg (ne_true_of_eq_false h1)).trans (if_neg (ne_true_of_eq_false hf))).symm) hl h
      · refine call_meets F.slot_str_split (typeIs_str _ _ _) F.entry_str_split (F.args_str_split_2 _ _) (meets_str_split_not_found a b t u h1 hb hf) ?_
        exact laid_strs (l := [(a, t)]) (ys := Txt.split a b) (k := s.toks) I ((if_neg (ne_true_of_eq_false h1)).trans (if_pos hf)).symm hl h
    · refine call_meets F.slot_str_split (typeIs_str _ _ _) F.entry_str_split (F.args_str_split_2 _ _) (meets_str_split_cannot_occur a b t u h1) ?_
      exact laid_strs (l := [(a, t)]) (ys := Txt.split a b) (k := s.toks) I (if_pos h1).symm hl h
theorem mt1 {id : String} {g : Str → Str → V} (rule : ∀ (a b : Str) (t u : Tok) (s : Shared) (Q : Value → Shared → Prop), (∀ (v : Value) (k : Nat), RelV (g a b) v → Q v { s with toks := k }) →
    wpAny (model X.prog X.w) X.A (call (.builtin id) [.str a t, .str b u]) Q X.xe s) : MtR X id (fun x xs H Q => ∃ a b, x = .str a ∧ xs = [.str b] ∧ Q (g a b) H) := by
  intro pins s σ H x xs v us Q I rx rs h
  obtain ⟨a, b, rfl, rfl, h⟩ := h
  obtain ⟨t, rfl⟩ := rx
  cases rs with
  | cons r1 rs =>
    cases rs
    obtain ⟨u, rfl⟩ := r1
    exact rule a b t u s _ fun v k r => ⟨g a b, H, I.tok k, r, h⟩
theorem mt_find : MtR X "str.find" (fun x xs H Q => ∃ a b, x = .str a ∧ xs = [.str b] ∧ Q (.int (Txt.find a b)) H) :=
  mt1 (g := fun a b => .int (Txt.find a b)) fun _ _ _ _ s _ h => PySem.SC.find (h _ (s.toks + 1) ⟨_, rfl⟩)
theorem call_int_str : CallR X (.type "int") (fun xs H Q => ∃ a n, xs = [.str a] ∧ PySem.intText? a = some n ∧ a.length ≤ 640 ∧ Q (.int n) H) := by
  intro pins s σ H xs us Q I rs h
  obtain ⟨a, n, rfl, hn, hl, h⟩ := h
  cases rs with
  | cons r1 rs =>
    cases rs
    obtain ⟨t, rfl⟩ := r1
    exact PySem.W.KIN.call_text hn hl ⟨.int n, H, I.tok _, ⟨_, rfl⟩, h⟩
end
section
variable {X : Cx} {o e : Expr} {to te : TE}
def tM1 (r : V → List V → Hp → VK → Prop) (to te : TE) : TE := fun σ H Q => to σ H fun x H1 => (∃ a, x = .str a) ∧ te σ H1 fun y H2 => r x [y] H2 Q
theorem pe_m1 {id : String} {name : Str} {apos pos : Pos} {r : V → List V → Hp → VK → Prop} (slot : Slot "str" name id) (ty : typeOf (.builtin id) = pure (.type "method_descriptor")) (rule : MtR X id r) (ho : PE X o to) (he : PE X e te)
    (hs : starEach [e] X.env = [(false, eval e X.env)] := by rfl) (hbase : attributeBase o name X.env (eval o X.env) = eval o X.env := by rfl) (hline : (apos.endLine == pos.line) = true := by rfl) :
    PE X (.Call (.Attribute o name apos) [e] [] pos) (tM1 r to te) := by
  intro pins s σ H Q I h
  refine PySem.Call_method1 hbase hs hline (thn (ho pins s σ H _ I h) fun v s1 ⟨x, H1, I1, r1, q1⟩ => ?_)
  obtain ⟨⟨a, rfl⟩, q1⟩ := q1
  obtain ⟨t, rfl⟩ := _root_.id r1
  refine ⟨"str", _, F.plainAttrs_str, slot, ty, typeIs_str _ _ _, (fun _ e => nomatch e), Calls.callWith_builtin rfl (Calls.evalArgs_plain (Calls.spliced_cons ?_))⟩
  exact thn (he pins s1 σ H1 _ I1 q1) fun u s2 ⟨y, H2, I2, r2, q2⟩ => Calls.spliced_nil (rule pins s2 σ H2 _ [y] _ [u] Q I2 r1 (.cons r2 .nil) q2)
end
end L2
namespace L2
open PySem PySem.Spec PyProof.Rows
section
variable {X : Cx}
end
theorem IsPart.raw {v : Value} {o : Option Int} (p : IsPart v o) : ∃ l : Option (Int × Tok), v = partValue l ∧ l.map (·.1) = o := by
  cases p with
  | none => exact ⟨none, rfl, rfl⟩
  | int i t => exact ⟨some (i, t), rfl, rfl⟩
def clipS (n d : Nat) : Option Int → Int
  | none => (d : Int)
  | some i => max 0 (min (if i < 0 then i + (n : Int) else i) (n : Int))
theorem clipS_eq (n d : Nat) (o : Option Int) : clipS n d o = ((HT.sIx n d o : Nat) : Int) := by
  cases o with
  | none => rfl
  | some v =>
    show max (0 : Int) (min (if v < 0 then v + (n : Int) else v) (n : Int)) = (((if v < 0 then (v + (n : Int)).toNat else min v.toNat n) : Nat) : Int)
    by_cases hv : v < 0
    · simp only [if_pos hv]
      omega
    · simp only [if_neg hv]
      omega
theorem sidx_clip (a b : Option Int) (n : Nat) : Builtin.Str.strSliceIndices a b 1 n = sliceRange (clipS n 0 a) (clipS n n b) 1 := by
  have h1 : ((1 : Int) > 0) = True := by simp
  cases a <;> cases b <;> first
    | rfl
    | (simp only [Builtin.Str.strSliceIndices, clipS, h1, if_true]; rfl)
    | simp [Builtin.Str.strSliceIndices, clipS]
theorem sidx (a b : Option Int) (n : Nat) : Builtin.Str.strSliceIndices a b 1 n = (List.range (HT.sIx n n b - HT.sIx n 0 a)).map (fun k => HT.sIx n 0 a + k) := by
  rw [sidx_clip, clipS_eq, clipS_eq]
  generalize HT.sIx n 0 a = p
  generalize HT.sIx n n b = q
  simp only [sliceRange, show ((1 : Int) > 0) = True from by simp, if_true]
  by_cases hlt : (p : Int) < q
  · have e3 : (((q : Int) - p + 1 - 1) / 1).toNat = q - p := by first | omega | (simp; done) | (simp; omega)
    simp only [hlt, if_true, e3]
    refine List.map_congr_left fun k _ => ?_
    omega
  · have : q - p = 0 := by omega
    simp [hlt, this]
def cutS (z : Str) (lo hi : Option Int) : Str :=
  ⟨((z.cps.toList.drop (HT.sIx z.length 0 lo)).take (HT.sIx z.length z.length hi - HT.sIx z.length 0 lo)).toArray⟩
theorem sliceText_cut (z : Str) (lo hi : Option Int) : PySem.StrLaws.sliceText z lo hi = cutS z lo hi := by
  have h1 : HT.sIx z.length 0 lo ≤ z.length := HT.sIx_le _ _ (Nat.zero_le _) _
  have h2 : HT.sIx z.length z.length hi ≤ z.length := HT.sIx_le _ _ (Nat.le_refl _) _
  have hp : HT.sIx z.length 0 lo ≤ max (HT.sIx z.length 0 lo) (HT.sIx z.length z.length hi) := Nat.le_max_left _ _
  have hq : max (HT.sIx z.length 0 lo) (HT.sIx z.length z.length hi) ≤ z.length := Nat.max_le.mpr ⟨h1, h2⟩
  have hd : max (HT.sIx z.length 0 lo) (HT.sIx z.length z.length hi) - HT.sIx z.length 0 lo = HT.sIx z.length z.length hi - HT.sIx z.length 0 lo := by omega
  have e : Builtin.Str.strSliceIndices lo hi 1 z.length =
      Builtin.Str.strSliceIndices (some ((HT.sIx z.length 0 lo : Nat) : Int)) (some ((max (HT.sIx z.length 0 lo) (HT.sIx z.length z.length hi) : Nat) : Int)) 1 z.length := by
    rw [PySem.StrLaws.strSliceIndices_plain hp hq, hd, sidx]
  have e2 : PySem.StrLaws.sliceText z lo hi =
      PySem.StrLaws.sliceText z (some ((HT.sIx z.length 0 lo : Nat) : Int)) (some ((max (HT.sIx z.length 0 lo) (HT.sIx z.length z.length hi) : Nat) : Int)) := by
    unfold PySem.StrLaws.sliceText
    rw [e]
  rw [e2, PySem.StrLaws.sliceText_nat z hp hq, hd]
  rfl
theorem cutS_length (z : Str) (lo hi : Option Int) : (cutS z lo hi).length ≤ z.length := by
  show (((z.cps.toList.drop (HT.sIx z.length 0 lo)).take (HT.sIx z.length z.length hi - HT.sIx z.length 0 lo)).toArray).size ≤ z.cps.size
  rw [List.size_toArray, List.length_take, List.length_drop, Array.length_toList]
  omega
def rSlS : V → Option Int → Option Int → Hp → VK → Prop := fun x lo hi H Q => ∃ z, x = .str z ∧ z.length ≤ sizeLine ∧ Q (.str (cutS z lo hi)) H
theorem sl_str {X : Cx} : SlR X rSlS := by
  intro pins s σ H x v vl vu lo hi sl Q I rx hs pl pu h
  obtain ⟨z, rfl, hz, q⟩ := h
  obtain ⟨t, rfl⟩ := rx
  obtain ⟨os, hos, hcs, hds⟩ := hs
  obtain ⟨l, rfl, rfl⟩ := IsPart.raw pl
  obtain ⟨u, rfl, rfl⟩ := IsPart.raw pu
  refine ⟨"str", _, F.slot_str_getitem.lookup, typeIs_str _ _ _, ?_⟩
  refine wpAny_getItem_str_slice (l := l) (u := u) (st := none) ⟨os, hos, hcs, hds⟩ rfl ?_
  have hl : (PySem.StrLaws.sliceText z (l.map (·.1)) (u.map (·.1))).length ≤ sizeLine := by
    rw [sliceText_cut]
    exact Nat.le_trans (cutS_length z _ _) hz
  rw [← sliceText_cut] at q
  unfold PySem.StrLaws.sliceText at q hl
  show Made.post (if ((1 : Int) == 1 && (Builtin.Str.strSliceIndices (l.map (·.1)) (u.map (·.1)) 1 z.length).length == z.length) = true then Made.val (.str z t)
    else Made.str ⟨((Builtin.Str.strSliceIndices (l.map (·.1)) (u.map (·.1)) 1 z.length).filterMap (z.cps[·]?)).toArray⟩) (EP X pins σ Q) s
  by_cases c : ((1 : Int) == 1 && (Builtin.Str.strSliceIndices (l.map (·.1)) (u.map (·.1)) 1 z.length).length == z.length) = true
  · rw [if_pos c] at q ⊢
    exact ⟨.str z, H, I, ⟨t, rfl⟩, q⟩
  · rw [if_neg c] at q hl ⊢
    exact ⟨hl, .str _, H, I.tok _, ⟨_, rfl⟩, q⟩
end L2
namespace Att
open PySem PySem.W PySem.Calls PyProof.Rows
theorem ints_of_wellAll {P : Params} {h : Heap} : ∀ (ns : List Int) (vs : List Value), WellAll P h vs (ns.map WData.int) → IntsAre vs ns := by
  intro ns
  induction ns with
  | nil =>
    intro vs w
    rw [List.map_nil] at w
    cases w
    exact .nil
  | cons n ns ih =>
    intro vs w
    rw [List.map_cons] at w
    cases w with
    | cons a b =>
      cases a
      exact .cons _ _ (ih _ b)
theorem script_of {l : OpenLaw} {n : Nat} (hn : l.most = some n) {P : Params} {h : Heap} {args : List WData} {vals : List Value}
    (hpre : l.row.toRowW.claim.pre args = true) (hwl : WellAll P h vals args) :
    ∃ a vs ns, vals = [Value.ref a] ∧ args = [WData.list (ns.map WData.int)] ∧ h.get? a = some { cls := .type "list", data := .seq vs.toArray } ∧ IntsAre vs ns ∧ ns.length ≤ n := by
  have hsh : WShape.hasAll [] args [.list .int] = true := (pre_splitW hpre).1
  have hc : l.pre.holds [] { args := args } = true := (pre_splitW hpre).2
  obtain ⟨d, r, rfl, h1, h2⟩ := hasAllW_cons hsh
  obtain rfl := hasAllW_nil h2
  obtain ⟨xs, rfl, h3⟩ := hasW_list h1
  obtain ⟨ns, rfl⟩ := items_int h3
  have hlen : ns.length ≤ n := by
    unfold OpenLaw.pre at hc
    have h4 : (WTm.not (.lt (.lit (.int (n : Int))) (.len (.arg 0)))).holds [] { args := [.list (ns.map .int)] } = true := by
      have h4 := (holds_andW hc).1
      rw [hn] at h4
      exact h4
    have h5 := condW_of h4 (w_not (w_lt w_lit (w_len_list (w_arg rfl))))
    rw [List.length_map] at h5
    refine Nat.le_of_not_lt fun q => ?_
    have q' : (n : Int) < ((ns.length : Nat) : Int) := by omega
    first
      | (rw [decide_eq_true q'] at h5; exact absurd h5 (by decide))
      | (simp at h5; omega)
  cases hwl with
  | cons w1 w2 =>
    cases w2
    cases w1 with
    | list ho hall => exact ⟨_, _, ns, rfl, rfl, ho, ints_of_wellAll ns _ hall, hlen⟩
theorem post_true (l : OpenLaw) (args : List WData) : l.row.toRowW.claim.post args (.bool true) args = true :=
  postW_of (r := l.row.toRowW) (X := (true == true))
    (show WShape.has [] (.bool true) .bool = true by first | rfl | decide | simp [WShape.has, WShape.arms, WShape.armsAll])
    (show (WTm.eq .res (.lit (.bool true))).value [] { args := args, res := some (.bool true), after := args } = some (.bool (true == true)) from w_eq_bool (w_res rfl) w_lit) rfl
theorem attach_call {l : OpenLaw} {n : Nat} {q : Program} {loose : List Str} {XP : (Str → Option Value) → Heap → Prop} {YP : World → Heap → Prop} {d : DefRec}
    (hn : l.most = some n) (hdf : d.params.defaults = [])
    (call : ∀ (w : World) (s₀ s₁ : Shared) (mg mb : Str → Option Value) (fa : Addr) (o : Obj) (pm cd doc : Value) (a : Addr) (vs : List Value) (ns : List Int),
      Ground q loose [] XP w s₀ mg mb s₁.heap → YP w s₁.heap →
      s₁.heap.get? fa = some o → o.data = .func (docDef d.name d.params d.body d.scope pm cd doc) → s₁.heap.CodeRec cd d.name → mg d.name = some (.ref fa) →
      s₁.heap.get? a = some { cls := .type "list", data := .seq vs.toArray } → IntsAre vs ns → ns.length ≤ n → s₁.gens = #[] →
      codeAny (model l.prog w) callerA (.call (.ref fa) ⟨[.ref a], []⟩) (fun r s' => r = .ok (.ret (.bool true)) ∧ OldK s₁.heap s'.heap ∧ s'.os = s₁.os ∧ AllBare s'.gens) s₁) :
    WalkO q loose XP YP l.row.toRowW d [] (fun f vs => PySem.call f vs) := by
  intro w s₀ s₁ mg mb G Y fa o pm cd doc dV kV ho hd hcd hD hmg hg args vals as hpre hlay hrd hwl hlo
  obtain rfl : dV = .none := Dflts.none hD hdf
  obtain rfl : kV = .none := Dflts.noKw hD
  obtain ⟨a, vs, ns, rfl, rfl, hobj, hints, hlen⟩ := script_of hn hpre hwl
  refine enter_call (codeAny_mono (call w s₀ s₁ mg mb fa o pm cd doc a vs ns G Y ho (fd_plain hd) hcd hmg hobj hints hlen hg) fun r s' hq => ?_)
  obtain ⟨rfl, h2, h3, h4⟩ := hq
  exact ⟨.inl ⟨.bool true, .bool true, [], rfl, fun _ => rfl, .bool true, post_true l _, fun _ => ⟨List.Pairwise.nil, fun _ hm => (nomatch hm)⟩⟩, h2, h3, h4⟩
section
variable {prog : Program} {w : World} {A : Around} {E : Value → Shared → Prop} {s : Shared} {K : Frag}
end
end Att
namespace L2
open PySem PySem.Spec PyProof.Rows
theorem vals_ints : ∀ {vs : List Value} {ns : List Int}, IntsAre vs ns → Vals (ns.map V.int) vs
  | _, _, .nil => .nil
  | _, _, .cons n t h => .cons ⟨t, rfl⟩ (vals_ints h)
def Only (H : Hp) : Prop := ∀ b, H b = none ∨ ∃ o xs, H b = some (.frz o (.lst xs))
theorem law_call {P : Program} {w : World} {K : PySem.W.Frag} {mg mb : Str → Option Value} {CX : CXT} {k : Nat} {fa a : Addr} {fd : FuncData} {x : Str} {sp : Sp} {s₁ : Shared} {vs : List Value} {ns : List Int}
    (KX : K.In s₁.heap) (hns : s₁.heap.Ns mainGlobals mg) (hb : s₁.heap.Ns builtinsNs mb) (hbb : ∀ x : Str, x ≠ "__name__" → mb x = bootBuiltins x) (hlim : s₁.heap.NoLimit) (hg : s₁.gens = #[])
    (ha : s₁.heap.get? a = some { cls := .type "list", data := .seq vs.toArray }) (hi : IntsAre vs ns) (hl : ns.length ≤ sizeLine) (hr : Room k callerA)
    (F : ∀ base : Heap, K.In base → base.Ns mainGlobals mg → FnOk P w K mg base CX k fa fd [x] sp) (hbind : ∀ (s : Shared) (u : Value), BindsTo s fd ⟨[u], []⟩ [(x, u)])
    (hsp : ∀ H : Hp, Only H → SqL K H a (ns.map V.int) → sp [.ref a] H (fun v _ => v = .bl true) fun _ _ _ => False)
    (hCX : ∀ H e s', CX [] H s₁ (fun _ _ _ => False) e s' → False) :
    codeAny (model P w) callerA (.call (.ref fa) ⟨[.ref a], []⟩) (fun r s' => r = .ok (.ret (.bool true)) ∧ OldK s₁.heap s'.heap ∧ s'.os = s₁.os ∧ AllBare s'.gens) s₁ := by
  have rv := vals_ints hi
  have lenV := hi.length
  -- from an abstract heap in which nothing but the script may be tracked
  have core : ∀ H : Hp, Only H → SqL K H a (ns.map V.int) → HOk P w H s₁.heap → (∀ b, H b ≠ none → b = a) → (H a ≠ none → K.lookup a = none) →
      codeAny (model P w) callerA (.call (.ref fa) ⟨[.ref a], []⟩) (fun r s' => r = .ok (.ret (.bool true)) ∧ OldK s₁.heap s'.heap ∧ s'.os = s₁.os ∧ AllBare s'.gens) s₁ := by
    intro H hO hS hok hA hK
    have base_of : ∀ {b : Addr} {o : Obj}, s₁.heap.get? b = some o → H b = none → (hidT s₁.heap H).get? b = some o := fun e n => hidT_get e n
    have noA : ∀ {b : Addr} {o : Obj} {es : Array DictEntry} {ep : Nat}, s₁.heap.get? b = some o → o.data = .dict es ep → H b = none := fun {b o es ep} e d => by
      cases q : H b with
      | none => rfl
      | some u =>
        have e' : b = a := hA b (by rw [q]; simp)
        subst e'
        rw [ha] at e; cases e
        have d' : Data.seq vs.toArray _ = Data.dict es ep := d
        cases d'
    have nsK : ∀ {b : Addr} {m : Str → Option Value}, s₁.heap.Ns b m → (hidT s₁.heap H).Ns b m := fun {b m} ⟨o, es, ep, e, d, r⟩ => ⟨o, es, ep, base_of e (noA e d), d, r⟩
    have hKb : K.In (hidT s₁.heap H) := fun b o e => base_of (KX b o e) (by
      cases q : H b with
      | none => rfl
      | some u =>
        have e' : b = a := hA b (by rw [q]; simp)
        subst e'
        rw [hK (by rw [q]; simp)] at e; cases e)
    have hM : Mod K mg (hidT s₁.heap H) := ⟨hKb, nsK hns, ⟨mb, nsK hb, hbb⟩, let ⟨mc, h1, h2⟩ := hlim; ⟨mc, nsK h1, h2⟩⟩
    have e0 : Env0 P w K mg (hidT s₁.heap H) callerA [] s₁ H := ⟨rfl, hM, fun b o e => of_hidT e, Nat.le_of_eq (hidT_size _ _), trivial, fun b hb => absurd (show b ∈ ([] : List Addr) from hb) (by simp), hok, .of_eq hg⟩
    refine codeAny_mono ((F _ hKb (nsK hns)).run callerA [] s₁ H ⟨[.ref a], []⟩ [.ref a] [.ref a] _ _ hr e0 (hbind s₁ (.ref a)) (.cons rfl .nil) (hsp H hO hS)) fun r s' h => ?_
    cases r with
    | error e => exact (hCX H e s' h).elim
    | ok fl =>
      cases fl with
      | next => exact False.elim h
      | brk => exact False.elim h
      | cont => exact False.elim h
      | ret u =>
        obtain ⟨v, H', os, bare, un, hok', r', q⟩ := h
        have q' : v = .bl true := q
        subst q'
        obtain rfl : u = Value.bool true := r'
        refine ⟨rfl, OldK.of_keep fun b o e => ?_, os, bare⟩
        cases q : H b with
        | none => exact un.keep b o e q (by intro z; exact absurd (show b ∈ ([] : List Addr) from z) (by simp)) (by simp)
        | some u =>
          rcases hO b with z | ⟨ob, xs, z⟩
          · rw [q] at z; cases z
          · have z2 := un.frzs b ob _ z
            obtain ⟨e1, _⟩ := hok b _ z
            obtain ⟨e2, _⟩ := hok' b _ z2
            rw [e] at e1; cases e1
            exact e2
  cases hk : K.lookup a with
  | some o =>
    -- the script is one of the module's own objects
    have e := KX a o hk
    rw [ha] at e
    cases e
    refine core (fun _ => none) (fun _ => .inl rfl) (.inr ⟨_, vs.toArray, _, hk, rfl, rfl, rfl, by rw [List.size_toArray, lenV]; exact hl, by simpa using rv⟩) (fun b u z => by have z' : (none : Option HO) = some u := z; cases z') (fun b z => absurd rfl z) fun z => absurd rfl z
  | none =>
    refine core (fun b => if b = a then some (.frz { cls := .type "list", data := .seq vs.toArray } (.lst (ns.map V.int))) else none) (fun b => ?_) (.inl (.inr ⟨{ cls := .type "list", data := .seq vs.toArray }, if_pos rfl⟩)) (fun b u z => ?_) (fun b z => ?_) fun _ => hk
    · by_cases hb : b = a
      · exact .inr ⟨_, _, if_pos hb⟩
      · exact .inl (if_neg hb)
    · by_cases hb : b = a
      · have z' := (if_pos hb).symm.trans z
        cases z'
        subst hb
        exact ⟨ha, by rw [List.length_map]; exact hl, vs, _, rv, ha⟩
      · have z' := (if_neg hb).symm.trans z
        cases z'
    · by_cases hb : b = a
      · exact hb
      · exact absurd (if_neg hb) z
end L2
namespace L2
open PySem PySem.Spec PyProof.Rows
abbrev KOf {K : PySem.W.Frag} {h : Heap} (_ : K.In h) : PySem.W.Frag := K
theorem walk_of {l : PySem.W.OpenLaw} {n k : Nat} {q : Program} {loose : List Str} {XP : (Str → Option Value) → Heap → Prop} {YP : World → Heap → Prop} {d : DefRec} {K : Params → PySem.W.Frag} {CX : World → CXT} {sp : World → Sp} {x : Str}
    (hn : l.most = some n) (hn2 : n ≤ sizeLine) (hdf : d.params.defaults = []) (hr : Room k callerA)
    (hY : ∀ (w : World) (h : Heap), YP w h → (K w.params).In h)
    (F : ∀ (w : World) (mg : Str → Option Value) (fa : Addr) (h : Heap), (K w.params).In h → h.Ns mainGlobals mg → mg d.name = some (.ref fa) →
      ∃ fd : FuncData, (∀ (s : Shared) (u : Value), BindsTo s fd ⟨[u], []⟩ [(x, u)]) ∧
        ∀ base : Heap, (K w.params).In base → base.Ns mainGlobals mg → FnOk l.prog w (K w.params) mg base (CX w) k fa fd [x] (sp w))
    (hsp : ∀ (w : World) (H : Hp) (a : Addr) (ns : List Int), ns.length ≤ n → Only H → SqL (K w.params) H a (ns.map V.int) → sp w [.ref a] H (fun v _ => v = .bl true) fun _ _ _ => False)
    (hCX : ∀ (w : World) (H : Hp) (s : Shared) (e : Value) (s' : Shared), CX w [] H s (fun _ _ _ => False) e s' → False) :
    PySem.W.WalkO q loose XP YP l.row.toRowW d [] (fun f vs => PySem.call f vs) := by
  refine Att.attach_call hn hdf fun w s₀ s₁ mg mb fa o pm cd doc a vs ns G Y ho hd hcd hmg hobj hints hlen hg => ?_
  have KX := hY w _ Y
  obtain ⟨fd, hb, hF⟩ := F w mg fa _ KX G.T.g hmg
  exact law_call KX G.T.g G.T.b G.T.builtins G.T.nolimit hg hobj hints (Nat.le_trans hlen hn2) hr hF hb (fun H hO hS => hsp w H a ns hlen hO hS) fun H e s' => hCX w H s₁ e s'
end L2
/- THE LAST THEOREM (shape; LID, My.* are yours):
   My.Adr: a structure of the addresses that your layer names (classes, functions); My.Txt K t: a structure (Prop) of the equations over K;
   My.txt_mk : {K} {implicit addresses ..} (e1 : nsIn K mainGlobals "law" = some (some (.ref f))) (e2 : K.lookup f = some ⟨oc, od, .func (fnOf "law" "law" params body scope dV kV doc pm an cdv ct), sl⟩) (e3 : codeIn K cdv "law" = true) .. : ∃ t, My.Txt K t
set_option maxRecDepth 100000 in
set_option maxHeartbeats 0 in
theorem PySem.Challenge.cw_LID_holds : PySem.Challenge.rw_LID.Holds := by
  w_on; o_law; k_head; (case hw => w_witness2)
  k_fill
  refine L2.walk_of (l := PySem.Challenge.rw_LID) (n := 63) (k := 40) (x := "script") (CX := fun w => ..) (sp := fun _ => My.sp_law) rfl (by decide) rfl ⟨rfl, by decide, by decide⟩ (fun w h Y => PySem.W.kIn_of Y) ?F ?S ?C
  case F =>
    intro w mg fa h KX G hmg
    have T : ∃ t, My.Txt (L2.KOf KX) t := by
      dsimp only [L2.KOf]                          -- K must stand as «<heap const> w.params» for k_is
      refine' My.txt_mk ?e1 ?e2 ?e3 ..
      (case e1 => PySem.W.k_is)                    -- in the order: a name -> its address -> its object -> its parts
      (case e2 => PySem.W.k_is)
      ..
    obtain ⟨t, T⟩ := T
    have e0 := hmg.symm.trans (PySem.W.mg_of KX G T.law)
    cases e0                                       -- fa is the law's own address
    exact ⟨_, fun s u => .of_eq rfl, fun base kb nb => My.law_fn T kb nb⟩     -- if «.of_eq rfl» comes too early: refine' ⟨_, ?b, fun base kb nb => My.law_fn T kb nb⟩; exact fun s u => .of_eq rfl
  case S => exact fun w H a ns hl hO hS => ..
  case C => exact ..
(the tactic k_is has no namespace: write k_is) -/
namespace L2
open PySem PySem.Spec PyProof.Rows
def defArgs (s : Stmt) : Arguments := match s with
  | .FunctionDef _ a _ _ _ _ _ _ _ _ => a
  | _ => { posonlyargs := [], args := [], vararg := none, kwonlyargs := [], kw_defaults := [], kwarg := none, defaults := [] }
def defBody (s : Stmt) : List Stmt := match s with
  | .FunctionDef _ _ b _ _ _ _ _ _ _ => b
  | _ => []
def defScope (s : Stmt) : Scope := match s with
  | .FunctionDef _ _ _ _ _ _ sc _ _ _ => sc
  | _ => { kind := .function, names := [], isGenerator := false, isCoroutine := false }
abbrev CX0 : CXT := fun _ _ _ _ _ _ => False
abbrev E0 : XK := fun _ _ _ => False
theorem pass0 {X : Cx} : Passes CX0 X E0 := fun _ _ _ _ _ _ _ h => h.elim
structure Fun (K : PySem.W.Frag) (x qual : Str) (st : Stmt) (f : Addr) (fd : FuncData) : Prop where
  ex : ∃ (oc : Value) (od : Option Addr) (kV doc pm : Value) (an : Option Addr) (cdv ct : Value) (osl : Array (Option Value)),
    fd = PySem.W.fnOf x qual (defArgs st) (defBody st) (defScope st) .none kV doc pm an cdv ct ∧ K.lookup f = some ⟨oc, od, .func fd, osl⟩ ∧ PySem.W.codeIn K cdv qual = true
  kp : PySem.W.keepIn K (.ref f) = true
section
variable {P : Program} {w : World} {K : PySem.W.Frag} {mg : Str → Option Value} {base : Heap}
theorem Fun.ok {x qual : Str} {st : Stmt} {f : Addr} {fd : FuncData} {N ps : List Str} {k : Nat} {sp : Sp} (F : Fun K x qual st f fd) (S : FnScope N ps (defScope st)) (len : ∀ vs H Q E, sp vs H Q E → vs.length = ps.length)
    (hbody : ∀ (cdv : Value) (A : Around) (outer : List Env) (s : Shared) (H : Hp) (vs : List V) (Q : VK) (E : XK), Room k (A.deeper (envOfC qual (defScope st) s.heap.objs.size f cdv)) → sp vs H Q E →
      ∃ t, PSs (cxOf CX0 P w K mg base N qual (defScope st) f cdv A outer s H E).nox (defBody st) t ∧ t { nx := fun _ H' => Q .non H', rt := Q } (start N vs) H) : FnOk P w K mg base CX0 (k + 1) f fd ps sp := by
  obtain ⟨oc, od, kV, doc, pm, an, cdv, ct, osl, rfl, lk, hcd⟩ := F.ex
  refine fn_of lk hcd S len fun A outer s H vs Q E hr hsp => ?_
  obtain ⟨t, h, q⟩ := hbody cdv A outer s H vs Q E hr hsp
  exact ⟨t, h.nox, q⟩
theorem Fun.binds {x qual : Str} {st : Stmt} {f : Addr} {fd : FuncData} {ps : List Str} (F : Fun K x qual st f fd)
    (h : ∀ (kV doc pm : Value) (an : Option Addr) (cdv ct : Value) (us : List Value), us.length = ps.length → bindArgs (PySem.W.fnOf x qual (defArgs st) (defBody st) (defScope st) .none kV doc pm an cdv ct) ⟨us, []⟩ = pure (ps.zip us)) : Binds K fd ps [] := by
  obtain ⟨oc, od, kV, doc, pm, an, cdv, ct, osl, rfl, lk, hcd⟩ := F.ex
  exact .all (h kV doc pm an cdv ct)
theorem fun_mk {x qual : Str} {st : Stmt} {f : Addr} {oc : Value} {od an : Option Addr} {osl : Array (Option Value)} {kV doc pm cdv ct : Value} (l : K.lookup f = some ⟨oc, od, .func (PySem.W.fnOf x qual (defArgs st) (defBody st) (defScope st) .none kV doc pm an cdv ct), osl⟩)
    (c : PySem.W.codeIn K cdv qual = true) (k : PySem.W.keepIn K (.ref f) = true) : Fun K x qual st f (PySem.W.fnOf x qual (defArgs st) (defBody st) (defScope st) .none kV doc pm an cdv ct) := ⟨⟨oc, od, kV, doc, pm, an, cdv, ct, osl, rfl, l, c⟩, k⟩
end
section
variable {X : Cx}
end
theorem iteF {A B : Prop} (h : B) : if false = true then A else B := by
  rw [if_neg Bool.false_ne_true]
  exact h
theorem iteT {A B : Prop} (h : A) : if true = true then A else B := by
  rw [if_pos rfl]
  exact h
def Same (H H' : Hp) : Prop := ∀ b o, H b = some o → H' b = some o
theorem Same.refl (H : Hp) : Same H H := fun _ _ h => h
theorem Same.trans {H H1 H2 : Hp} (a : Same H H1) (b : Same H1 H2) : Same H H2 := fun c o h => b c o (a c o h)
theorem Same.free {H H' : Hp} (e : Same H H') {l : Addr} (h : H' l = Option.none) : H l = Option.none := by
  cases q : H l with
  | none => rfl
  | some o =>
    rw [e l o q] at h
    cases h
theorem Same.seq {K : PySem.W.Frag} {H H' : Hp} {a : Addr} {xs : List V} (e : Same H H') (h : SqL K H a xs) : SqL K H' a xs := by
  rcases h with (h | ⟨o, h⟩) | h
  · exact .inl (.inl (e _ _ h))
  · exact .inl (.inr ⟨o, e _ _ h⟩)
  · exact .inr h
section
variable {κ : Type} [DecidableEq κ]
end
theorem Same.made {H H1 : Hp} {x dx C : Addr} (nx : H x = Option.none) (nd : H dx = Option.none) (k : ∀ b o, (upd (upd H dx (.own x)) x (.ins C dx [])) b = some o → b ≠ x → H1 b = some o) : Same H H1 := fun b o e =>
  k b o (by rw [upd_ne (ne_of_none e nx), upd_ne (ne_of_none e nd)]; exact e) (ne_of_none e nx)
end L2
namespace DL
open PySem PySem.Spec PyProof.Rows L2
abbrev St := L2.St
inductive Dv where
  | d (x : PyData) | r (a : Addr)
inductive MO where
  | lst (xs : List Dv)
  | dK (kvs : List (Key × Dv))
  | gen (R : Hp → HO → Prop) (mo : ∀ I I' o, Same I I' → R I o → R I' o)
abbrev M := Addr → Option MO
abbrev Dn := List (Option Dv)
abbrev QD := Dv → M → Prop
abbrev TD := Dn → M → QD → Prop
abbrev TBd := Dn → M → (Bool → M → Prop) → Prop
abbrev TAd := Dn → M → (List Dv → M → Prop) → Prop
structure DEnds where
  nx : Dn → M → Prop
  rt : QD
  bk : Dn → M → Prop := fun _ _ => False
  ct : Dn → M → Prop := fun _ _ => False
abbrev TSd := DEnds → Dn → M → Prop
def setM (m : M) (a : Addr) (o : MO) : M := fun b => if b = a then some o else m b
theorem setM_same {m : M} {a : Addr} {o : MO} : setM m a o a = some o := by unfold setM; rw [if_pos rfl]
theorem setM_ne {m : M} {a b : Addr} {o : MO} (h : b ≠ a) : setM m a o b = m b := by unfold setM; rw [if_neg h]
section
variable (K : PySem.W.Frag)
def Is (I : Hp) (v : V) : Dv → Prop
  | .d x => Dp K I v x
  | .r a => v = .ref a
abbrev IsAll (I : Hp) : List V → List Dv → Prop := Paired (Is K I)
def MRel (I : Hp) : HO → MO → Prop
  | .lst vs, .lst ds => IsAll K I vs ds
  | .dK kvs, .dK es => Paired (fun (p : Key × V) (q : Key × Dv) => p.1 = q.1 ∧ Is K I p.2 q.2) kvs es
  | o, .gen R _ => R I o
  | _, _ => False
structure Ok (H I : Hp) (m : M) : Prop where
  im : ∀ a o, I a = some o → H a = some o
  dj : ∀ a o, I a = some o → m a = none
  mu : ∀ a q, m a = some q → ∃ o, H a = some o ∧ MRel K I o q
def Rl (I : Hp) (σ : St) (δ : Dn) : Prop := Paired (fun (v : Option V) (d : Option Dv) => ∀ x, d = some x → ∃ y, v = some y ∧ Is K I y x) σ δ
end
theorem SqT.same {K : PySem.W.Frag} {H H' : Hp} {a : Addr} {xs : List V} (e : Same H H') (h : SqT K H a xs) : SqT K H' a xs := by
  rcases h with (h | ⟨o, h⟩) | h
  · exact .inl (.inl (e _ _ h))
  · exact .inl (.inr ⟨o, e _ _ h⟩)
  · exact .inr h
mutual
theorem Dp.same {K : PySem.W.Frag} {H H' : Hp} (e : Same H H') : ∀ {v : V} {d : PyData}, Dp K H v d → Dp K H' v d
  | _, _, .non => .non
  | _, _, .bl b => .bl b
  | _, _, .int i => .int i
  | _, _, .str x => .str x
  | _, _, .lst h a => .lst (e.seq h) (DpAll.same e a)
  | _, _, .tup h a => .tup (SqT.same e h) (DpAll.same e a)
theorem DpAll.same {K : PySem.W.Frag} {H H' : Hp} (e : Same H H') : ∀ {v : List V} {d : List PyData}, DpAll K H v d → DpAll K H' v d
  | _, _, .nil => .nil
  | _, _, .cons h t => .cons (Dp.same e h) (DpAll.same e t)
end
section
variable {K : PySem.W.Frag} {I I' : Hp}
theorem Is.same (e : Same I I') {v : V} {d : Dv} (h : Is K I v d) : Is K I' v d := by
  cases d with
  | d x => exact Dp.same e h
  | r a => exact h
theorem paired_imp {α β : Type} {R S : α → β → Prop} (h : ∀ a b, R a b → S a b) : ∀ {xs : List α} {ys : List β}, Paired R xs ys → Paired S xs ys
  | _, _, .nil => .nil
  | _, _, .cons r t => .cons (h _ _ r) (paired_imp h t)
theorem IsAll.same (e : Same I I') {vs : List V} {ds : List Dv} (h : IsAll K I vs ds) : IsAll K I' vs ds := paired_imp (fun _ _ => Is.same e) h
theorem Rl.same (e : Same I I') {σ : St} {δ : Dn} (h : Rl K I σ δ) : Rl K I' σ δ := paired_imp (fun _ _ q x hx => let ⟨y, h1, h2⟩ := q x hx; ⟨y, h1, h2.same e⟩) h
theorem MRel.same (e : Same I I') {o : HO} {q : MO} (h : MRel K I o q) : MRel K I' o q := by
  cases q with
  | gen R mo => cases o <;> exact mo _ _ _ e h
  | lst ds => cases o <;> first | exact IsAll.same e h | exact h.elim
  | dK es => cases o <;> first | exact paired_imp (fun _ _ z => ⟨z.1, z.2.same e⟩) h | exact h.elim
theorem dpAll_of : ∀ {vs : List V} {xs : List PyData}, IsAll K I vs (xs.map Dv.d) → DpAll K I vs xs
  | _, [], h => by cases h; exact .nil
  | _, x :: xs, h => by
    cases h with
    | cons r t => exact .cons r (dpAll_of t)
theorem isAll_of : ∀ {vs : List V} {xs : List PyData}, DpAll K I vs xs → IsAll K I vs (xs.map Dv.d)
  | _, _, .nil => .nil
  | _, _, .cons h t => .cons h (isAll_of t)
theorem paired_get {α β : Type} {R : α → β → Prop} : ∀ {xs : List α} {ys : List β} {i : Nat} {y : β}, Paired R xs ys → ys[i]? = some y → ∃ x, xs[i]? = some x ∧ R x y
  | _, _, _, _, .nil, e => by simp at e
  | _, _, 0, _, .cons r _, e => by simp at e; subst e; exact ⟨_, rfl, r⟩
  | _, _, i + 1, y, .cons _ t, e => by
    obtain ⟨u, h1, h2⟩ := paired_get (i := i) (y := y) t (by simpa using e)
    exact ⟨u, by simpa using h1, h2⟩
theorem paired_len {α β : Type} {R : α → β → Prop} : ∀ {xs : List α} {ys : List β}, Paired R xs ys → xs.length = ys.length
  | _, _, .nil => rfl
  | _, _, .cons _ t => by simp [paired_len t]
theorem paired_set {α β : Type} {R : α → β → Prop} {a : α} {b : β} (r : R a b) : ∀ {xs : List α} {ys : List β} (i : Nat), Paired R xs ys → Paired R (xs.set i a) (ys.set i b)
  | _, _, _, .nil => .nil
  | _, _, 0, .cons _ t => .cons r t
  | _, _, i + 1, .cons q t => .cons q (paired_set r i t)
theorem paired_app {α β : Type} {R : α → β → Prop} : ∀ {xs xs' : List α} {ys ys' : List β}, Paired R xs ys → Paired R xs' ys' → Paired R (xs ++ xs') (ys ++ ys')
  | _, _, _, _, .nil, q => q
  | _, _, _, _, .cons r t, q => .cons r (paired_app t q)
theorem Rl.get {σ : St} {δ : Dn} {i : Nat} {x : Dv} (h : Rl K I σ δ) (e : δ[i]? = some (some x)) : ∃ y, σ[i]? = some (some y) ∧ Is K I y x := by
  obtain ⟨v, h1, h2⟩ := paired_get h e
  obtain ⟨y, rfl, h3⟩ := h2 x rfl
  exact ⟨y, h1, h3⟩
theorem Rl.set {σ : St} {δ : Dn} {v : V} {x : Dv} (h : Rl K I σ δ) (i : Nat) (q : Is K I v x) : Rl K I (σ.set i (some v)) (δ.set i (some x)) :=
  paired_set (fun y e => ⟨v, rfl, by cases e; exact q⟩) i h
end
def Qd (K : PySem.W.Frag) (I : Hp) (Q : QD) : VK := fun v H' => ∃ I' d m', Same I I' ∧ Ok K H' I' m' ∧ Is K I' v d ∧ Q d m'
def up (K : PySem.W.Frag) (t : TD) : TE := fun σ H Q => ∃ I δ m, Ok K H I m ∧ Rl K I σ δ ∧ t δ m (fun d m' => ∀ v H' I', Same I I' → Ok K H' I' m' → Is K I' v d → Q v H')
def upB (K : PySem.W.Frag) (t : TBd) : TT := fun σ H Q => ∃ I δ m, Ok K H I m ∧ Rl K I σ δ ∧ t δ m (fun b m' => ∀ H' I', Same I I' → Ok K H' I' m' → Q b H')
def upA (K : PySem.W.Frag) (t : TAd) : TA := fun σ H Q => ∃ I δ m, Ok K H I m ∧ Rl K I σ δ ∧ t δ m (fun ds m' => ∀ vs H' I', Same I I' → Ok K H' I' m' → IsAll K I' vs ds → Q vs H')
def low (K : PySem.W.Frag) (I : Hp) (D : Ends) : DEnds where
  nx := fun δ' m' => ∀ σ' H' I', Same I I' → Ok K H' I' m' → Rl K I' σ' δ' → D.nx σ' H'
  rt := fun d m' => ∀ v H' I', Same I I' → Ok K H' I' m' → Is K I' v d → D.rt v H'
  bk := fun δ' m' => ∀ σ' H' I', Same I I' → Ok K H' I' m' → Rl K I' σ' δ' → D.bk σ' H'
  ct := fun δ' m' => ∀ σ' H' I', Same I I' → Ok K H' I' m' → Rl K I' σ' δ' → D.ct σ' H'
def upS (K : PySem.W.Frag) (t : TSd) : TS := fun D σ H => ∃ I δ m, Ok K H I m ∧ Rl K I σ δ ∧ t (low K I D) δ m
structure DEnds.Le (D D' : DEnds) : Prop where
  nx : ∀ δ m, D.nx δ m → D'.nx δ m
  rt : ∀ d m, D.rt d m → D'.rt d m
  bk : ∀ δ m, D.bk δ m → D'.bk δ m
  ct : ∀ δ m, D.ct δ m → D'.ct δ m
theorem DEnds.Le.refl (D : DEnds) : D.Le D := ⟨fun _ _ h => h, fun _ _ h => h, fun _ _ h => h, fun _ _ h => h⟩
theorem low_le {K : PySem.W.Frag} {I I' : Hp} (e : Same I I') (D : Ends) : (low K I D).Le (low K I' D) :=
  ⟨fun _ _ h σ' H' J q => h σ' H' J (e.trans q), fun _ _ h σ' H' J q => h σ' H' J (e.trans q), fun _ _ h σ' H' J q => h σ' H' J (e.trans q), fun _ _ h σ' H' J q => h σ' H' J (e.trans q)⟩
abbrev Mo {α : Type} (t : Dn → M → (α → M → Prop) → Prop) : Prop := ∀ δ m (Q Q' : α → M → Prop), (∀ d m', Q d m' → Q' d m') → t δ m Q → t δ m Q'
abbrev MoS (t : TSd) : Prop := ∀ D D' δ m, DEnds.Le D D' → t D δ m → t D' δ m
structure DE (X : Cx) (e : Expr) (t : TD) : Prop where
  mono : Mo t
  pe : PE X e (up X.K t)
structure DT (X : Cx) (e : Expr) (t : TBd) : Prop where
  mono : Mo t
  pt : PT X e (upB X.K t)
structure DW (X : Cx) (e : Expr) (t : TBd) : Prop where
  mono : Mo t
  pw : PW X e (upB X.K t)
structure DA (X : Cx) (es : List Expr) (t : TAd) : Prop where
  mono : Mo t
  pa : PA X es (upA X.K t)
structure DS (X : Cx) (st : Stmt) (t : TSd) : Prop where
  mono : MoS t
  ps : PS X st (upS X.K t)
structure DSs (X : Cx) (st : List Stmt) (t : TSd) : Prop where
  mono : MoS t
  ps : PSs X st (upS X.K t)
theorem PE.imp {X : Cx} {e : Expr} {t t' : TE} (h : PE X e t) (i : ∀ σ H Q, t' σ H Q → t σ H Q) : PE X e t' := fun pins s σ H Q I q => h pins s σ H Q I (i σ H Q q)
theorem PT.imp {X : Cx} {e : Expr} {t t' : TT} (h : PT X e t) (i : ∀ σ H Q, t' σ H Q → t σ H Q) : PT X e t' := fun pins s σ H Q I q => h pins s σ H Q I (i σ H Q q)
theorem PW.imp {X : Cx} {e : Expr} {t t' : TT} (h : PW X e t) (i : ∀ σ H Q, t' σ H Q → t σ H Q) : PW X e t' := fun w pins s σ H Q I q => h w pins s σ H Q I (i σ H Q q)
theorem PA.imp {X : Cx} {e : List Expr} {t t' : TA} (h : PA X e t) (i : ∀ σ H Q, t' σ H Q → t σ H Q) : PA X e t' := fun p pins s σ H Q I q => h p pins s σ H Q I (i σ H Q q)
theorem PS.imp {X : Cx} {e : Stmt} {t t' : TS} (h : PS X e t) (i : ∀ D σ H, t' D σ H → t D σ H) : PS X e t' := fun pins s σ H D I q => h pins s σ H D I (i D σ H q)
theorem PSs.imp {X : Cx} {e : List Stmt} {t t' : TS} (h : PSs X e t) (i : ∀ D σ H, t' D σ H → t D σ H) : PSs X e t' := fun pins s σ H D I q => h pins s σ H D I (i D σ H q)
theorem de_of {X : Cx} {e : Expr} {tp : TE} {t : TD} (h : PE X e tp) (mo : Mo t)
    (i : ∀ σ H I δ m (Q : QD), Ok X.K H I m → Rl X.K I σ δ → t δ m Q → tp σ H (Qd X.K I Q)) : DE X e t := by
  refine ⟨mo, PE.imp (t := fun σ H Q => ∃ I δ m, Ok X.K H I m ∧ Rl X.K I σ δ ∧ t δ m (fun d m' => ∀ v H' I', Same I I' → Ok X.K H' I' m' → Is X.K I' v d → Q v H')) (fun pins s σ H Q J q => ?_) fun σ H Q q => q⟩
  obtain ⟨I, δ, m, o, r, q⟩ := q
  refine thn (h pins s σ H _ J (i σ H I δ m _ o r q)) fun u s' ⟨v, H', J', rv, I', d, m', sm, o', is, q'⟩ => ?_
  exact ⟨v, H', J', rv, q' v H' I' sm o' is⟩
section
variable {X : Cx} {pos : Pos}
def dVar (i : Nat) : TD := fun δ m Q => ∃ v, δ[i]? = some (some v) ∧ Q v m
def dC (x : PyData) : TD := fun _ m Q => Q (.d x) m
theorem mo_dVar (i : Nat) : Mo (dVar i) := fun _ _ _ _ h ⟨v, e, q⟩ => ⟨v, e, h _ _ q⟩
theorem mo_dC (x : PyData) : Mo (dC x) := fun _ _ _ _ h q => h _ _ q
theorem dv (i : Nat) {x : Str} (hN : X.N[i]? = some x := by rfl) (hv : Vis X.env.scope x := by first | exact Or.inl rfl | exact Or.inr (Or.inl rfl) | exact Or.inr (Or.inr rfl)) (hd : (x == ("__debug__" : Str)) = false := by decide)
    (hcd : (x == ("__classdict__" : Str)) = false := by decide) : DE X (.Name x pos) (dVar i) := by
  refine de_of (pe_var hN hv hd hcd) (mo_dVar i) fun σ H I δ m Q o r ⟨v, e, q⟩ => ?_
  obtain ⟨y, h1, h2⟩ := r.get e
  exact ⟨y, h1, I, v, m, Same.refl _, o, h2, q⟩
theorem de_const {e : Expr} {v : V} {x : PyData} (h : PE X e (tC v)) (hd : ∀ I, Dp X.K I v x) : DE X e (dC x) :=
  de_of h (mo_dC x) fun σ H I δ m Q o r q => ⟨I, .d x, m, Same.refl _, o, hd I, q⟩
theorem de_int {i j} : DE X (.Constant (.int i) j pos) (dC (.int i)) := de_const pe_int fun _ => .int i
theorem de_bl {b j} : DE X (.Constant (.bool b) j pos) (dC (.bool b)) := de_const pe_bl fun _ => .bl b
theorem de_str {x j} : DE X (.Constant (.str x) j pos) (dC (.str x)) := de_const pe_str fun _ => .str x
theorem de_glob {x : Str} {v : V} {u : Value} {y : PyData} (hg : Gl X x) (hm : X.mg x = some u) (r : RelV v u) (hd : ∀ I, Dp X.K I v y) (hdb : (x == ("__debug__" : Str)) = false := by decide) : DE X (.Name x pos) (dC y) :=
  de_const (pe_glob hg hm r hdb) hd
end
section
variable {X : Cx} {a b c : Expr} {ta tb tc : TD} {pos : Pos}
abbrev R2D := Dv → Dv → M → QD → Prop
abbrev Mo2 (r : R2D) : Prop := ∀ x y m (Q Q' : QD), (∀ d m', Q d m' → Q' d m') → r x y m Q → r x y m Q'
abbrev R1D := Dv → M → QD → Prop
abbrev Mo1 (r : R1D) : Prop := ∀ x m (Q Q' : QD), (∀ d m', Q d m' → Q' d m') → r x m Q → r x m Q'
abbrev RAD := List Dv → M → QD → Prop
abbrev MoA (r : RAD) : Prop := ∀ xs m (Q Q' : QD), (∀ d m', Q d m' → Q' d m') → r xs m Q → r xs m Q'
def dOp (rd : R2D) (ta tb : TD) : TD := fun δ m Q => ta δ m fun x m1 => tb δ m1 fun y m2 => rd x y m2 Q
def dUn (rd : R1D) (ta : TD) : TD := fun δ m Q => ta δ m fun x m1 => rd x m1 Q
structure Op2 (K : PySem.W.Frag) (r : R2) (rd : R2D) : Prop where
  mono : Mo2 rd
  ok : ∀ H I0 I m x y v w Q, Ok K H I m → Same I0 I → Is K I v x → Is K I w y → rd x y m Q → r v w H (Qd K I0 Q)
structure Op1 (K : PySem.W.Frag) (r : V → Hp → VK → Prop) (rd : R1D) : Prop where
  mono : Mo1 rd
  ok : ∀ H I0 I m x v Q, Ok K H I m → Same I0 I → Is K I v x → rd x m Q → r v H (Qd K I0 Q)
structure OpA (K : PySem.W.Frag) (r : List V → Hp → VK → Prop) (rd : RAD) : Prop where
  mono : MoA rd
  ok : ∀ H I0 I m xs vs Q, Ok K H I m → Same I0 I → IsAll K I vs xs → rd xs m Q → r vs H (Qd K I0 Q)
theorem mo_dOp {rd : R2D} (h : Mo2 rd) (ma : Mo ta) (mb : Mo tb) : Mo (dOp rd ta tb) := fun δ m Q Q' hq q =>
  ma δ m _ _ (fun x m1 q1 => mb δ m1 _ _ (fun y m2 q2 => h x y m2 Q Q' hq q2) q1) q
theorem mo_dUn {rd : R1D} (h : Mo1 rd) (ma : Mo ta) : Mo (dUn rd ta) := fun δ m Q Q' hq q =>
  ma δ m _ _ (fun x m1 q1 => h x m1 Q Q' hq q1) q
theorem lift2 {e : Expr} {r : R2} {rd : R2D} (h : PE X e (tOp r (up X.K ta) (up X.K tb))) (ha : DE X a ta) (hb : DE X b tb) (o : Op2 X.K r rd) : DE X e (dOp rd ta tb) := by
  refine de_of h (mo_dOp o.mono ha.mono hb.mono) fun σ H I δ m Q ok rl q => ?_
  refine ⟨I, δ, m, ok, rl, ha.mono δ m _ _ (fun x m1 q1 v1 H1 I1 s1 o1 i1 => ?_) q⟩
  refine ⟨I1, δ, m1, o1, rl.same s1, hb.mono δ m1 _ _ (fun y m2 q2 v2 H2 I2 s2 o2 i2 => ?_) q1⟩
  exact o.ok H2 I I2 m2 x y v1 v2 Q o2 (s1.trans s2) (i1.same s2) i2 q2
theorem lift1 {e : Expr} {r : V → Hp → VK → Prop} {rd : R1D} (h : PE X e (tUn r (up X.K ta))) (ha : DE X a ta) (o : Op1 X.K r rd) : DE X e (dUn rd ta) := by
  refine de_of h (mo_dUn o.mono ha.mono) fun σ H I δ m Q ok rl q => ?_
  refine ⟨I, δ, m, ok, rl, ha.mono δ m _ _ (fun x m1 q1 v1 H1 I1 s1 o1 i1 => ?_) q⟩
  exact o.ok H1 I I1 m1 x v1 Q o1 s1 i1 q1
theorem de_op {op : Operator} {r : R2} {rd : R2D} (ho : OpR X (binaryOp op) r) (o : Op2 X.K r rd) (ha : DE X a ta) (hb : DE X b tb) : DE X (.BinOp a op b pos) (dOp rd ta tb) := lift2 (pe_op ho ha.pe hb.pe) ha hb o
theorem de_un {op : UnaryOp} {r : V → Hp → VK → Prop} {rd : R1D} (ho : UnR X (unaryOp op) r) (o : Op1 X.K r rd) (ha : DE X a ta) : DE X (.UnaryOp op a pos) (dUn rd ta) := lift1 (pe_un ho ha.pe) ha o
theorem qd_same {K : PySem.W.Frag} {H I0 I : Hp} {m : M} {Q : QD} {v : V} {d : Dv} (ok : Ok K H I m) (s : Same I0 I) (h : Is K I v d) (q : Q d m) : Qd K I0 Q v H := ⟨I, d, m, s, ok, h, q⟩
theorem isI {K : PySem.W.Frag} {I : Hp} (i : Int) : Is K I (.int i) (.d (.int i)) := Dp.int i
theorem isB {K : PySem.W.Frag} {I : Hp} (i : Bool) : Is K I (.bl i) (.d (.bool i)) := Dp.bl i
theorem isS {K : PySem.W.Frag} {I : Hp} (i : Str) : Is K I (.str i) (.d (.str i)) := Dp.str i
theorem isN {K : PySem.W.Frag} {I : Hp} : Is K I .non (.d .none) := Dp.non
theorem Is.int {K : PySem.W.Frag} {I : Hp} {v : V} {i : Int} (h : Is K I v (.d (.int i))) : v = .int i := by cases (show Dp K I v (.int i) from h); rfl
theorem Is.str {K : PySem.W.Frag} {I : Hp} {v : V} {i : Str} (h : Is K I v (.d (.str i))) : v = .str i := by cases (show Dp K I v (.str i) from h); rfl
theorem Is.bl {K : PySem.W.Frag} {I : Hp} {v : V} {i : Bool} (h : Is K I v (.d (.bool i))) : v = .bl i := by cases (show Dp K I v (.bool i) from h); rfl
theorem Is.non {K : PySem.W.Frag} {I : Hp} {v : V} (h : Is K I v (.d .none)) : v = .non := by cases (show Dp K I v .none from h); rfl
def gI (C : Int → Int → Prop) (g : Int → Int → Int) : R2D
  | .d (.int i), .d (.int j), m, Q => C i j ∧ Q (.d (.int (g i j))) m
  | _, _, _, _ => False
def gI0 (g : Int → Int → Int) : R2D
  | .d (.int i), .d (.int j), m, Q => Q (.d (.int (g i j))) m
  | _, _, _, _ => False
def gB0 (g : Int → Int → Bool) : R2D
  | .d (.int i), .d (.int j), m, Q => Q (.d (.bool (g i j))) m
  | _, _, _, _ => False
theorem gI_inv {C : Int → Int → Prop} {g : Int → Int → Int} {x y : Dv} {m : M} {Q : QD} (h : gI C g x y m Q) : ∃ i j, x = .d (.int i) ∧ y = .d (.int j) ∧ C i j ∧ Q (.d (.int (g i j))) m := by
  unfold gI at h; split at h
  · exact ⟨_, _, rfl, rfl, h⟩
  · exact h.elim
theorem gI0_inv {g : Int → Int → Int} {x y : Dv} {m : M} {Q : QD} (h : gI0 g x y m Q) : ∃ i j, x = .d (.int i) ∧ y = .d (.int j) ∧ Q (.d (.int (g i j))) m := by
  unfold gI0 at h; split at h
  · exact ⟨_, _, rfl, rfl, h⟩
  · exact h.elim
theorem gB0_inv {g : Int → Int → Bool} {x y : Dv} {m : M} {Q : QD} (h : gB0 g x y m Q) : ∃ i j, x = .d (.int i) ∧ y = .d (.int j) ∧ Q (.d (.bool (g i j))) m := by
  unfold gB0 at h; split at h
  · exact ⟨_, _, rfl, rfl, h⟩
  · exact h.elim
theorem o2_I {K : PySem.W.Frag} {C : Int → Int → Prop} {g : Int → Int → Int} : Op2 K (rI C fun i j => .int (g i j)) (gI C g) := by
  refine ⟨fun x y m Q Q' h q => ?_, fun H I0 I m x y v w Q ok s hx hy q => ?_⟩
  · obtain ⟨i, j, rfl, rfl, c, q⟩ := gI_inv q
    exact ⟨c, h _ _ q⟩
  · obtain ⟨i, j, rfl, rfl, c, q⟩ := gI_inv q
    exact ⟨i, j, hx.int, hy.int, c, qd_same ok s (isI _) q⟩
theorem o2_I0 {K : PySem.W.Frag} {g : Int → Int → Int} : Op2 K (rI0 fun i j => .int (g i j)) (gI0 g) := by
  refine ⟨fun x y m Q Q' h q => ?_, fun H I0 I m x y v w Q ok s hx hy q => ?_⟩
  · obtain ⟨i, j, rfl, rfl, q⟩ := gI0_inv q
    exact h _ _ q
  · obtain ⟨i, j, rfl, rfl, q⟩ := gI0_inv q
    exact ⟨i, j, hx.int, hy.int, qd_same ok s (isI _) q⟩
theorem o2_B0 {K : PySem.W.Frag} {g : Int → Int → Bool} : Op2 K (rI0 fun i j => .bl (g i j)) (gB0 g) := by
  refine ⟨fun x y m Q Q' h q => ?_, fun H I0 I m x y v w Q ok s hx hy q => ?_⟩
  · obtain ⟨i, j, rfl, rfl, q⟩ := gB0_inv q
    exact h _ _ q
  · obtain ⟨i, j, rfl, rfl, q⟩ := gB0_inv q
    exact ⟨i, j, hx.int, hy.int, qd_same ok s (isB _) q⟩
def g1I (g : Int → Int) : R1D
  | .d (.int i), m, Q => Q (.d (.int (g i))) m
  | _, _, _ => False
theorem g1I_inv {g : Int → Int} {x : Dv} {m : M} {Q : QD} (h : g1I g x m Q) : ∃ i, x = .d (.int i) ∧ Q (.d (.int (g i))) m := by
  unfold g1I at h; split at h
  · exact ⟨_, rfl, h⟩
  · exact h.elim
theorem o1_I {K : PySem.W.Frag} {g : Int → Int} : Op1 K (rU fun i => .int (g i)) (g1I g) := by
  refine ⟨fun x m Q Q' h q => ?_, fun H I0 I m x v Q ok s hx q => ?_⟩
  · obtain ⟨i, rfl, q⟩ := g1I_inv q
    exact h _ _ q
  · obtain ⟨i, rfl, q⟩ := g1I_inv q
    exact ⟨i, hx.int, qd_same ok s (isI _) q⟩
theorem de_sub (ha : DE X a ta) (hb : DE X b tb) : DE X (.BinOp a .Sub b pos) (dOp (gI0 fun i j => i - j) ta tb) := de_op op_sub o2_I0 ha hb
theorem de_mul (ha : DE X a ta) (hb : DE X b tb) : DE X (.BinOp a .Mult b pos) (dOp (gI CMul fun i j => i * j) ta tb) := de_op op_mul o2_I ha hb
theorem de_mod (ha : DE X a ta) (hb : DE X b tb) : DE X (.BinOp a .Mod b pos) (dOp (gI (fun _ j => 0 < j) fun i j => i % j) ta tb) := de_op op_mod o2_I ha hb
def CDivB (i j : Int) : Prop := 0 < j ∧ j < 2 ^ 200
theorem op_fdivB : OpR X (binaryOp .FloorDiv) (rI CDivB fun i j => .int (i / j)) := opI fun i j _ _ _ _ _ hc q => by
  have h1 : (0 : Int) < j := hc.1
  have h2 : j < 2 ^ 200 := hc.2
  refine floordiv_int (by omega) (by rw [Int.fdiv_eq_ediv_of_nonneg i (by omega)]; exact q) (.inl (PyProof.noPylong_of_log2 ?_))
  have h3 : j.natAbs < 2 ^ 200 := by
    have e : (j.natAbs : Int) = j := by omega
    have : ((j.natAbs : Nat) : Int) < ((2 ^ 200 : Nat) : Int) := by rw [e]; exact h2
    exact Int.ofNat_lt.mp this
  have h4 : j.natAbs ≠ 0 := by omega
  have := (Nat.log2_lt h4).mpr h3
  omega
theorem de_fdiv (ha : DE X a ta) (hb : DE X b tb) : DE X (.BinOp a .FloorDiv b pos) (dOp (gI CDivB fun i j => i / j) ta tb) := de_op op_fdivB o2_I ha hb
theorem de_pow (ha : DE X a ta) (hb : DE X b tb) : DE X (.BinOp a .Pow b pos) (dOp (gI CPow fun i j => i ^ j.toNat) ta tb) := de_op op_pow o2_I ha hb
theorem de_shl (ha : DE X a ta) (hb : DE X b tb) : DE X (.BinOp a .LShift b pos) (dOp (gI CPow fun i j => i * 2 ^ j.toNat) ta tb) := de_op op_shl o2_I ha hb
theorem de_neg (ha : DE X a ta) : DE X (.UnaryOp .USub a pos) (dUn (g1I fun i => -i) ta) := de_un un_neg o1_I ha
end
end DL
namespace DL
open PySem PySem.Spec PyProof.Rows L2
section
variable {X : Cx} {a b c : Expr} {ta tb tc : TD} {pos : Pos}
def isBool : Dv → M → (Bool → M → Prop) → Prop
  | .d (.bool b), m, Q => Q b m
  | _, _, _ => False
theorem isBool_inv {x : Dv} {m : M} {Q : Bool → M → Prop} (h : isBool x m Q) : ∃ b, x = .d (.bool b) ∧ Q b m := by
  unfold isBool at h; split at h
  · exact ⟨_, rfl, h⟩
  · exact h.elim
theorem isBool_mono {x : Dv} {m : M} {Q Q' : Bool → M → Prop} (hq : ∀ b m, Q b m → Q' b m) (h : isBool x m Q) : isBool x m Q' := by
  obtain ⟨b, rfl, q⟩ := isBool_inv h
  exact hq _ _ q
def dTest (t : TD) : TBd := fun δ m Q => t δ m fun x m1 => isBool x m1 Q
theorem mo_dTest {t : TD} (h : Mo t) : Mo (dTest t) := fun δ m Q Q' hq q => h δ m _ _ (fun _ _ z => isBool_mono hq z) q
theorem dt_of {e : Expr} {tp : TT} {t : TBd} (h : PT X e tp) (mo : Mo t)
    (i : ∀ σ H I δ m (Q : Bool → M → Prop), Ok X.K H I m → Rl X.K I σ δ → t δ m Q → tp σ H (fun b H' => ∃ I' m', Same I I' ∧ Ok X.K H' I' m' ∧ Q b m')) : DT X e t := by
  refine ⟨mo, fun pins s σ H Q J q => ?_⟩
  obtain ⟨I, δ, m, o, r, q⟩ := q
  refine thn (h pins s σ H _ J (i σ H I δ m _ o r q)) fun u s' ⟨H', J', I', m', sm, o', q'⟩ => ?_
  exact ⟨H', J', q' H' I' sm o'⟩
theorem dw_of {e : Expr} {tp : TT} {t : TBd} (h : PW X e tp) (mo : Mo t)
    (i : ∀ σ H I δ m (Q : Bool → M → Prop), Ok X.K H I m → Rl X.K I σ δ → t δ m Q → tp σ H (fun b H' => ∃ I' m', Same I I' ∧ Ok X.K H' I' m' ∧ Q b m')) : DW X e t := by
  refine ⟨mo, fun wh pins s σ H Q J q => ?_⟩
  obtain ⟨I, δ, m, o, r, q⟩ := q
  refine thn (h wh pins s σ H _ J (i σ H I δ m _ o r q)) fun u s' ⟨H', J', I', m', sm, o', q'⟩ => ?_
  exact ⟨H', J', q' H' I' sm o'⟩
theorem dt_val {e : Expr} {t : TD} (h : DE X e t) (he : ∀ whole, isTrue e X.env whole = (do let v ← whole; standAt e.pos; holding [v] (truthy v)) := by intro _; rfl) : DT X e (dTest t) := by
  refine dt_of (pt_val h.pe he) (mo_dTest h.mono) fun σ H I δ m Q ok rl q => ?_
  refine ⟨I, δ, m, ok, rl, h.mono δ m _ _ (fun x m1 q1 v1 H1 I1 s1 o1 i1 => ?_) q⟩
  obtain ⟨b, rfl, q1⟩ := isBool_inv q1
  exact ⟨b, i1.bl, I1, m1, s1, o1, q1⟩
theorem de_cmp {op : CmpOp} {r : R2} {rd : R2D} (ho : OpR X (compareOp op) r) (o : Op2 X.K r rd) (ha : DE X a ta) (hb : DE X b tb) (hm : behindInMarks op b = false) : DE X (.Compare a [op] [b] pos) (dOp rd ta tb) :=
  lift2 (pe_cmpR ho ha.pe hb.pe hm) ha hb o
theorem dt_cmp {op : CmpOp} {r : R2} {rd : R2D} (ho : OpR X (compareOp op) r) (o : Op2 X.K r rd) (ha : DE X a ta) (hb : DE X b tb) (hm : behindInMarks op b = false) : DT X (.Compare a [op] [b] pos) (dTest (dOp rd ta tb)) := by
  have mo := mo_dOp o.mono ha.mono hb.mono
  refine dt_of (tp := tTest (tOp (fun x y H Q => ∃ I0 I m dx dy QD, Ok X.K H I m ∧ Same I0 I ∧ Is X.K I x dx ∧ Is X.K I y dy ∧ rd dx dy m QD ∧ ∀ z H', Qd X.K I0 QD z H' → Q z H') (up X.K ta) (up X.K tb))) ?_ (mo_dTest mo) fun σ H I δ m Q ok rl q => ?_
  · refine pt_cmpR (fun pins s σ H x y v u Q J rx ry h => ?_) ha.pe hb.pe hm
    obtain ⟨I0, I, m, dx, dy, QD, ok, s1, ix, iy, h, k⟩ := h
    refine thn (ho pins s σ H x y v u _ J rx ry (o.ok H I0 I m dx dy x y QD ok s1 ix iy h)) fun u s' ⟨z, H', J', rz, q⟩ => ⟨z, H', J', rz, k z H' q⟩
  · refine ⟨I, δ, m, ok, rl, ha.mono δ m _ _ (fun x m1 q1 v1 H1 I1 s1 o1 i1 => ?_) q⟩
    refine ⟨I1, δ, m1, o1, rl.same s1, hb.mono δ m1 _ _ (fun y m2 q2 v2 H2 I2 s2 o2 i2 => ?_) q1⟩
    refine ⟨I, I2, m2, x, y, _, o2, s1.trans s2, i1.same s2, i2, q2, fun z H' ⟨I', d, m', sm, o', is, qb⟩ => ?_⟩
    obtain ⟨k, rfl, qb⟩ := isBool_inv qb
    exact ⟨k, is.bl, I', m', sm, o', qb⟩
def dAnd (t u : TBd) : TBd := fun δ m Q => t δ m fun c m1 => if c = true then u δ m1 Q else Q false m1
def dOr (t u : TBd) : TBd := fun δ m Q => t δ m fun c m1 => if c = true then Q true m1 else u δ m1 Q
def dNot (t : TBd) : TBd := fun δ m Q => t δ m fun c m1 => Q (!c) m1
theorem mo_dAnd {t u : TBd} (ht : Mo t) (hu : Mo u) : Mo (dAnd t u) := fun δ m Q Q' hq q => ht δ m _ _ (fun c m1 z => by
  cases c with
  | true => exact iteT (hu δ m1 Q Q' hq (by simpa using z))
  | false => exact iteF (hq _ _ (by simpa using z))) q
theorem mo_dOr {t u : TBd} (ht : Mo t) (hu : Mo u) : Mo (dOr t u) := fun δ m Q Q' hq q => ht δ m _ _ (fun c m1 z => by
  cases c with
  | true => exact iteT (hq _ _ (by simpa using z))
  | false => exact iteF (hu δ m1 Q Q' hq (by simpa using z))) q
theorem mo_dNot {t : TBd} (ht : Mo t) : Mo (dNot t) := fun δ m Q Q' hq q => ht δ m _ _ (fun c m1 z => hq _ _ z) q
variable {tA tB' : TBd} {rest : List Expr}
theorem DW.dt (h : DW X a tA) : DT X a tA := ⟨h.mono, h.pw.pt⟩
theorem dw_and1 (ha : DT X a tA) : DW X (.BoolOp .And [a] pos) tA := ⟨ha.mono, pw_and1 ha.pt⟩
theorem dw_or1 (ha : DT X a tA) : DW X (.BoolOp .Or [a] pos) tA := ⟨ha.mono, pw_or1 ha.pt⟩
theorem dw_and (ha : DT X a tA) (hb : DW X (.BoolOp .And (b :: rest) pos) tB') : DW X (.BoolOp .And (a :: b :: rest) pos) (dAnd tA tB') := by
  refine dw_of (pw_and ha.pt hb.pw) (mo_dAnd ha.mono hb.mono) fun σ H I δ m Q ok rl q => ?_
  refine ⟨I, δ, m, ok, rl, ha.mono δ m _ _ (fun c m1 q1 H1 I1 s1 o1 => ?_) q⟩
  cases c with
  | false => exact iteF ⟨I1, m1, s1, o1, by simpa using q1⟩
  | true =>
    refine iteT ⟨I1, δ, m1, o1, rl.same s1, hb.mono δ m1 _ _ (fun c2 m2 q2 H2 I2 s2 o2 => ?_) (show tB' δ m1 Q by simpa using q1)⟩
    exact ⟨I2, m2, s1.trans s2, o2, q2⟩
theorem dw_or (ha : DT X a tA) (hb : DW X (.BoolOp .Or (b :: rest) pos) tB') : DW X (.BoolOp .Or (a :: b :: rest) pos) (dOr tA tB') := by
  refine dw_of (pw_or ha.pt hb.pw) (mo_dOr ha.mono hb.mono) fun σ H I δ m Q ok rl q => ?_
  refine ⟨I, δ, m, ok, rl, ha.mono δ m _ _ (fun c m1 q1 H1 I1 s1 o1 => ?_) q⟩
  cases c with
  | true => exact iteT ⟨I1, m1, s1, o1, by simpa using q1⟩
  | false =>
    refine iteF ⟨I1, δ, m1, o1, rl.same s1, hb.mono δ m1 _ _ (fun c2 m2 q2 H2 I2 s2 o2 => ?_) (show tB' δ m1 Q by simpa using q1)⟩
    exact ⟨I2, m2, s1.trans s2, o2, q2⟩
theorem dt_not (ha : DT X a tA) : DT X (.UnaryOp .Not a pos) (dNot tA) := by
  refine dt_of (pt_not ha.pt) (mo_dNot ha.mono) fun σ H I δ m Q ok rl q => ?_
  exact ⟨I, δ, m, ok, rl, ha.mono δ m _ _ (fun c m1 q1 H1 I1 s1 o1 => ⟨I1, m1, s1, o1, q1⟩) q⟩
def dAndV (ta tb : TD) : TD := fun δ m Q => ta δ m fun x m1 => isBool x m1 fun c m1 => if c = true then tb δ m1 Q else Q (.d (.bool false)) m1
def dOrV (ta tb : TD) : TD := fun δ m Q => ta δ m fun x m1 => isBool x m1 fun c m1 => if c = true then Q (.d (.bool true)) m1 else tb δ m1 Q
def dNotV (ta : TD) : TD := fun δ m Q => ta δ m fun x m1 => isBool x m1 fun c m1 => Q (.d (.bool (!c))) m1
def dIf (t : TBd) (ta tb : TD) : TD := fun δ m Q => t δ m fun c m1 => if c = true then ta δ m1 Q else tb δ m1 Q
def dChain (r r' : R2D) (ta tb tc : TD) : TD := fun δ m Q => ta δ m fun x m1 => tb δ m1 fun y m2 => r x y m2 fun z m3 => isBool z m3 fun k m3 => if k = true then tc δ m3 fun w m4 => r' y w m4 Q else Q (.d (.bool false)) m3
def gEqD : R2D
  | .d x, .d y, m, Q => SeqAt.shaped x = true ∧ SeqAt.shaped y = true ∧ Q (.d (.bool (PyData.eqv x y))) m
  | _, _, _, _ => False
def gNeD : R2D
  | .d x, .d y, m, Q => SeqAt.shaped x = true ∧ SeqAt.shaped y = true ∧ Q (.d (.bool (!PyData.eqv x y))) m
  | _, _, _, _ => False
theorem Dp.up {K : PySem.W.Frag} {H I : Hp} {m : M} (ok : Ok K H I m) {v : V} {x : PyData} (h : Dp K I v x) : Dp K H v x := Dp.same ok.im h
theorem o2_eqD {K : PySem.W.Frag} : Op2 K (rEqD K) gEqD := by
  refine ⟨fun x y m Q Q' h q => ?_, fun H I0 I m x y v w Q ok s hx hy q => ?_⟩
  · cases x <;> cases y <;> first | exact q.elim | exact ⟨q.1, q.2.1, h _ _ q.2.2⟩
  · cases x <;> cases y <;> first | exact q.elim | exact ⟨_, _, Dp.up ok hx, Dp.up ok hy, q.1, q.2.1, qd_same ok s (isB _) q.2.2⟩
theorem o2_neD {K : PySem.W.Frag} : Op2 K (rNeD K) gNeD := by
  refine ⟨fun x y m Q Q' h q => ?_, fun H I0 I m x y v w Q ok s hx hy q => ?_⟩
  · cases x <;> cases y <;> first | exact q.elim | exact ⟨q.1, q.2.1, h _ _ q.2.2⟩
  · cases x <;> cases y <;> first | exact q.elim | exact ⟨_, _, Dp.up ok hx, Dp.up ok hy, q.1, q.2.1, qd_same ok s (isB _) q.2.2⟩
theorem de_eq {k : Nat} (hr : Room k X.A) (ha : DE X a ta) (hb : DE X b tb) : DE X (.Compare a [.Eq] [b] pos) (dOp gEqD ta tb) := de_cmp (op_eqD hr.units) o2_eqD ha hb (nomark _)
theorem dt_eq {k : Nat} (hr : Room k X.A) (ha : DE X a ta) (hb : DE X b tb) : DT X (.Compare a [.Eq] [b] pos) (dTest (dOp gEqD ta tb)) := dt_cmp (op_eqD hr.units) o2_eqD ha hb (nomark _)
theorem dt_ne {k : Nat} (hr : Room k X.A) (ha : DE X a ta) (hb : DE X b tb) : DT X (.Compare a [.NotEq] [b] pos) (dTest (dOp gNeD ta tb)) := dt_cmp (op_neD hr.units) o2_neD ha hb (nomark _)
theorem dt_lt (ha : DE X a ta) (hb : DE X b tb) : DT X (.Compare a [.Lt] [b] pos) (dTest (dOp (gB0 fun i j => decide (i < j)) ta tb)) := dt_cmp op_lt o2_B0 ha hb (nomark _)
theorem dt_gt (ha : DE X a ta) (hb : DE X b tb) : DT X (.Compare a [.Gt] [b] pos) (dTest (dOp (gB0 fun i j => decide (j < i)) ta tb)) := dt_cmp op_gt o2_B0 ha hb (nomark _)
end
section
variable {X : Cx} {e : Expr} {es : List Expr} {te : TD} {t : TAd} {pos : Pos}
def dNil : TAd := fun _ m Q => Q [] m
def dCons (ta : TD) (tr : TAd) : TAd := fun δ m Q => ta δ m fun x m1 => tr δ m1 fun xs m2 => Q (x :: xs) m2
theorem mo_dNil : Mo dNil := fun _ _ _ _ h q => h _ _ q
theorem mo_dCons {ta : TD} {tr : TAd} (h1 : Mo ta) (h2 : Mo tr) : Mo (dCons ta tr) := fun δ m Q Q' hq q => h1 δ m _ _ (fun x m1 q1 => h2 δ m1 _ _ (fun xs m2 q2 => hq _ _ q2) q1) q
theorem da_of {tp : TA} {t : TAd} (h : PA X es tp) (mo : Mo t)
    (i : ∀ σ H I δ m (Q : List Dv → M → Prop), Ok X.K H I m → Rl X.K I σ δ → t δ m Q → tp σ H (fun vs H' => ∃ I' ds m', Same I I' ∧ Ok X.K H' I' m' ∧ IsAll X.K I' vs ds ∧ Q ds m')) : DA X es t := by
  refine ⟨mo, fun p pins s σ H Q J q => ?_⟩
  obtain ⟨I, δ, m, o, r, q⟩ := q
  refine thn (h p pins s σ H _ J (i σ H I δ m _ o r q)) fun u s' ⟨vs, H', J', rv, I', ds, m', sm, o', is, q'⟩ => ?_
  exact ⟨vs, H', J', rv, q' vs H' I' sm o' is⟩
theorem da_nil : DA X [] dNil := da_of pa_nil mo_dNil fun σ H I δ m Q ok rl q => ⟨I, [], m, Same.refl _, ok, .nil, q⟩
theorem da_cons (ha : DE X e te) (hr : DA X es t) (hs : starEach (e :: es) X.env = (false, eval e X.env) :: starEach es X.env := by rfl) : DA X (e :: es) (dCons te t) := by
  refine da_of (pa_cons ha.pe hr.pa hs) (mo_dCons ha.mono hr.mono) fun σ H I δ m Q ok rl q => ?_
  refine ⟨I, δ, m, ok, rl, ha.mono δ m _ _ (fun x m1 q1 v1 H1 I1 s1 o1 i1 => ?_) q⟩
  refine ⟨I1, δ, m1, o1, rl.same s1, hr.mono δ m1 _ _ (fun xs m2 q2 vs H2 I2 s2 o2 i2 => ?_) q1⟩
  exact ⟨I2, x :: xs, m2, s1.trans s2, o2, .cons (i1.same s2) i2, q2⟩
theorem Ok.new {K : PySem.W.Frag} {H I : Hp} {m : M} (ok : Ok K H I m) {p : Addr} {o : HO} (hp : H p = none) : Ok K (upd H p o) (upd I p o) m := by
  have hm : m p = none := by
    cases e : m p with
    | none => rfl
    | some q => obtain ⟨o', h, _⟩ := ok.mu p q e; rw [hp] at h; cases h
  have hI : I p = none := by
    cases e : I p with
    | none => rfl
    | some q => have := ok.im p q e; rw [hp] at this; cases this
  have sm : Same I (upd I p o) := fun b u e => by rw [upd_ne (ne_of_none e hI)]; exact e
  refine ⟨fun a u e => ?_, fun a u e => ?_, fun a q e => ?_⟩
  · by_cases h : a = p
    · subst h; rw [upd_same] at e ⊢; exact e
    · rw [upd_ne h] at e ⊢; exact ok.im a u e
  · by_cases h : a = p
    · subst h; exact hm
    · rw [upd_ne h] at e; exact ok.dj a u e
  · have h : a ≠ p := fun z => by subst z; rw [hm] at e; cases e
    obtain ⟨u, h1, h2⟩ := ok.mu a q e
    exact ⟨u, by rw [upd_ne h]; exact h1, h2.same sm⟩
theorem same_new {H I : Hp} {p : Addr} {o : HO} (hI : I p = none) : Same I (upd I p o) := fun b u e => by rw [upd_ne (ne_of_none e hI)]; exact e
theorem Ok.free {K : PySem.W.Frag} {H I : Hp} {m : M} (ok : Ok K H I m) {p : Addr} (hp : H p = none) : I p = none := by
  cases e : I p with
  | none => rfl
  | some q => have := ok.im p q e; rw [hp] at this; cases this
theorem Ok.freeM {K : PySem.W.Frag} {H I : Hp} {m : M} (ok : Ok K H I m) {p : Addr} (hp : H p = none) : m p = none := by
  cases e : m p with
  | none => rfl
  | some q => obtain ⟨o', h, _⟩ := ok.mu p q e; rw [hp] at h; cases h
theorem Ok.newM {K : PySem.W.Frag} {H I : Hp} {m : M} (ok : Ok K H I m) {p : Addr} {o : HO} {q : MO} (hp : H p = none) (r : MRel K I o q) : Ok K (upd H p o) I (setM m p q) := by
  have hI := ok.free hp
  refine ⟨fun a u e => ?_, fun a u e => ?_, fun a z e => ?_⟩
  · rw [upd_ne (ne_of_none e hI)]; exact ok.im a u e
  · rw [setM_ne (ne_of_none e hI)]; exact ok.dj a u e
  · by_cases h : a = p
    · subst h; rw [setM_same] at e; cases e; exact ⟨o, upd_same, r⟩
    · rw [setM_ne h] at e; obtain ⟨u, h1, h2⟩ := ok.mu a z e; exact ⟨u, by rw [upd_ne h]; exact h1, h2⟩
theorem Ok.put {K : PySem.W.Frag} {H I : Hp} {m : M} (ok : Ok K H I m) {p : Addr} {o : HO} {q q0 : MO} (hp : m p = some q0) (r : MRel K I o q) : Ok K (upd H p o) I (setM m p q) := by
  have hI : I p = none := by
    cases e : I p with
    | none => rfl
    | some u => have := ok.dj p u e; rw [hp] at this; cases this
  refine ⟨fun a u e => ?_, fun a u e => ?_, fun a z e => ?_⟩
  · rw [upd_ne (ne_of_none e hI)]; exact ok.im a u e
  · rw [setM_ne (ne_of_none e hI)]; exact ok.dj a u e
  · by_cases h : a = p
    · subst h; rw [setM_same] at e; cases e; exact ⟨o, upd_same, r⟩
    · rw [setM_ne h] at e; obtain ⟨u, h1, h2⟩ := ok.mu a z e; exact ⟨u, by rw [upd_ne h]; exact h1, h2⟩
def datas : List Dv → Option (List PyData)
  | [] => some []
  | .d x :: r => (datas r).map (x :: ·)
  | .r _ :: _ => none
theorem datas_map : ∀ {ds : List Dv} {xs : List PyData}, datas ds = some xs → ds = xs.map .d
  | [], xs, h => by cases h; rfl
  | .d x :: r, xs, h => by
    simp only [datas] at h
    cases e : datas r with
    | none => rw [e] at h; cases h
    | some ys => rw [e] at h; cases h; simp [datas_map e]
  | .r _ :: _, _, h => by cases h
def dTup (t : TAd) : TD := fun δ m Q => t δ m fun ds m1 => ds.length ≤ sizeLine ∧ ∃ xs, datas ds = some xs ∧ Q (.d (.tuple xs)) m1
def dLst (t : TAd) : TD := fun δ m Q => t δ m fun ds m1 => ds.length ≤ sizeLine ∧ ∃ xs, datas ds = some xs ∧ Q (.d (.list xs)) m1
def dLstM (t : TAd) : TD := fun δ m Q => t δ m fun ds m1 => ds.length ≤ sizeLine ∧ ∀ p, m1 p = none → Q (.r p) (setM m1 p (.lst ds))
theorem mo_dTup (h : Mo t) : Mo (dTup t) := fun δ m Q Q' hq q => h δ m _ _ (fun ds m1 ⟨l, xs, e, z⟩ => ⟨l, xs, e, hq _ _ z⟩) q
theorem mo_dLst (h : Mo t) : Mo (dLst t) := fun δ m Q Q' hq q => h δ m _ _ (fun ds m1 ⟨l, xs, e, z⟩ => ⟨l, xs, e, hq _ _ z⟩) q
theorem mo_dLstM (h : Mo t) : Mo (dLstM t) := fun δ m Q Q' hq q => h δ m _ _ (fun ds m1 ⟨l, z⟩ => ⟨l, fun p hp => hq _ _ (z p hp)⟩) q
theorem de_tup {x1} (h : DA X es t) : DE X (.Tuple es x1 pos) (dTup t) := by
  refine de_of (pe_tup h.pa) (mo_dTup h.mono) fun σ H I δ m Q ok rl q => ?_
  refine ⟨I, δ, m, ok, rl, h.mono δ m _ _ (fun ds m1 q1 vs H1 I1 s1 o1 i1 => ?_) q⟩
  obtain ⟨hl, xs, e, q1⟩ := q1
  have e' := datas_map e
  subst e'
  refine ⟨by rw [paired_len i1]; exact hl, fun p hp => ?_⟩
  have fI := o1.free hp
  exact ⟨upd I1 p (.tup vs), .d (.tuple xs), m1, s1.trans (same_new (H := H1) fI), o1.new hp, Dp.tup (SqT.of upd_same) (DpAll.same (same_new (H := H1) fI) (dpAll_of i1)), q1⟩
theorem de_lst (h : DA X es t) : DE X (.List es pos) (dLst t) := by
  refine de_of (pe_lst h.pa) (mo_dLst h.mono) fun σ H I δ m Q ok rl q => ?_
  refine ⟨I, δ, m, ok, rl, h.mono δ m _ _ (fun ds m1 q1 vs H1 I1 s1 o1 i1 => ?_) q⟩
  obtain ⟨hl, xs, e, q1⟩ := q1
  have e' := datas_map e
  subst e'
  refine ⟨by rw [paired_len i1]; exact hl, fun p hp => ?_⟩
  have fI := o1.free hp
  exact ⟨upd I1 p (.lst vs), .d (.list xs), m1, s1.trans (same_new (H := H1) fI), o1.new hp, Dp.lst (SqL.of upd_same) (DpAll.same (same_new (H := H1) fI) (dpAll_of i1)), q1⟩
theorem de_lstM (h : DA X es t) : DE X (.List es pos) (dLstM t) := by
  refine de_of (pe_lst h.pa) (mo_dLstM h.mono) fun σ H I δ m Q ok rl q => ?_
  refine ⟨I, δ, m, ok, rl, h.mono δ m _ _ (fun ds m1 q1 vs H1 I1 s1 o1 i1 => ?_) q⟩
  obtain ⟨hl, q1⟩ := q1
  refine ⟨by rw [paired_len i1]; exact hl, fun p hp => ?_⟩
  exact ⟨I1, .r p, setM m1 p (.lst ds), s1, o1.newM hp i1, rfl, q1 p (o1.freeM hp)⟩
abbrev FD := List Dv → M → QD → Prop
def spD (K : PySem.W.Frag) (F : FD) : Sp := fun vs H Q _ => ∃ I ds m, Ok K H I m ∧ IsAll K I vs ds ∧ F ds m (fun d m' => ∀ v H' I', Same I I' → Ok K H' I' m' → Is K I' v d → Q v H')
def dCall (F : FD) (t : TAd) : TD := fun δ m Q => t δ m fun ds m1 => F ds m1 Q
theorem mo_dCall {F : FD} (hF : MoA F) (h : Mo t) : Mo (dCall F t) := fun δ m Q Q' hq q => h δ m _ _ (fun ds m1 z => hF ds m1 Q Q' hq z) q
theorem de_call {k : Nat} {f : Addr} {fd : FuncData} {ps : List Str} {F : FD} {x : Str} {p : Pos} (hF : MoA F) (G : FnOk X.prog X.w X.K X.mg X.base CX0 k f fd ps (spD X.K F)) (hr : Room k X.A) (hg : Gl X x) (hm : X.mg x = some (.ref f)) (hk : PySem.W.keepIn X.K (.ref f) = true) (hb : Binds X.K fd ps [])
    (ha : DA X (e :: es) t) (hdb : (x == ("__debug__" : Str)) = false := by decide) (he : starEach (e :: es) X.env = (false, eval e X.env) :: starEach es X.env := by rfl)
    (hpl : (backTo pos (starEach es X.env)).any (·.1) = false := by rfl) : DE X (.Call (.Name x p) (e :: es) [] pos) (dCall F t) := by
  refine de_of (pe_call (hdb := hdb) (he := he) (hpl := hpl) G hr hg hm hk hb .nil pass0 ha.pa) (mo_dCall hF ha.mono) fun σ H I δ m Q ok rl q => ?_
  refine ⟨I, δ, m, ok, rl, ha.mono δ m _ _ (fun ds m1 q1 vs H1 I1 s1 o1 i1 => ?_) q⟩
  show spD X.K F (vs ++ []) H1 (Qd X.K I Q) E0
  rw [List.append_nil]
  exact ⟨I1, ds, m1, o1, i1, hF ds m1 _ _ (fun d m2 q2 v H2 I2 s2 o2 i2 => qd_same o2 (s1.trans s2) i2 q2) q1⟩
theorem liftA {e0 : Expr} {r : List V → Hp → VK → Prop} {rd : RAD} (h : PE X e0 (tCB r (upA X.K t))) (ha : Mo t) (o : OpA X.K r rd) : DE X e0 (fun δ m Q => t δ m fun ds m1 => rd ds m1 Q) := by
  refine de_of h (fun δ m Q Q' hq q => ha δ m _ _ (fun ds m1 z => o.mono ds m1 Q Q' hq z) q) fun σ H I δ m Q ok rl q => ?_
  refine ⟨I, δ, m, ok, rl, ha δ m _ _ (fun ds m1 q1 vs H1 I1 s1 o1 i1 => ?_) q⟩
  exact o.ok H1 I I1 m1 ds vs Q o1 s1 i1 q1
def dCB (rd : RAD) (t : TAd) : TD := fun δ m Q => t δ m fun ds m1 => rd ds m1 Q
theorem de_callB {x : Str} {p : Pos} {id : String} {r : List V → Hp → VK → Prop} {rd : RAD} (hc : CallR X (.builtin id) r) (o : OpA X.K r rd) (hg : Gl X x) (hm : X.mg x = none) (hv : bootBuiltins x = some (.builtin id)) (ha : DA X (e :: es) t) (hn : x ≠ "__name__" := by decide) (hdb : (x == ("__debug__" : Str)) = false := by decide)
    (he : starEach (e :: es) X.env = (false, eval e X.env) :: starEach es X.env := by rfl) (hpl : (backTo pos (starEach es X.env)).any (·.1) = false := by rfl) : DE X (.Call (.Name x p) (e :: es) [] pos) (dCB rd t) :=
  liftA (pe_callB hc hg hm hv ha.pa hn hdb he hpl) ha.mono o
theorem de_callTy {x : Str} {p : Pos} {T : String} {r : List V → Hp → VK → Prop} {rd : RAD} (hc : CallR X (.type T) r) (o : OpA X.K r rd) (hg : Gl X x) (hm : X.mg x = none) (hv : bootBuiltins x = some (.type T)) (ha : DA X (e :: es) t) (hn : x ≠ "__name__" := by decide) (hdb : (x == ("__debug__" : Str)) = false := by decide)
    (he : starEach (e :: es) X.env = (false, eval e X.env) :: starEach es X.env := by rfl) (hpl : (backTo pos (starEach es X.env)).any (·.1) = false := by rfl) : DE X (.Call (.Name x p) (e :: es) [] pos) (dCB rd t) :=
  liftA (pe_callTy hc hg hm hv ha.pa hn hdb he hpl) ha.mono o
end
section
variable {X : Cx} {st : Stmt} {rest : List Stmt} {t u : TSd} {e : Expr} {te : TD} {pos : Pos}
theorem ds_of {st : Stmt} {tp : TS} {t : TSd} (h : PS X st tp) (mo : MoS t) (i : ∀ σ H I δ m D, Ok X.K H I m → Rl X.K I σ δ → t (low X.K I D) δ m → tp D σ H) : DS X st t :=
  ⟨mo, PS.imp h fun D σ H ⟨I, δ, m, ok, rl, q⟩ => i σ H I δ m D ok rl q⟩
theorem dss_of {st : List Stmt} {tp : TS} {t : TSd} (h : PSs X st tp) (mo : MoS t) (i : ∀ σ H I δ m D, Ok X.K H I m → Rl X.K I σ δ → t (low X.K I D) δ m → tp D σ H) : DSs X st t :=
  ⟨mo, PSs.imp h fun D σ H ⟨I, δ, m, ok, rl, q⟩ => i σ H I δ m D ok rl q⟩
def sNext : TSd := fun D δ m => D.nx δ m
def sSeq (t u : TSd) : TSd := fun D δ m => t { D with nx := u D } δ m
theorem mo_sSeq (h1 : MoS t) (h2 : MoS u) : MoS (sSeq t u) := fun D D' δ m l q => h1 { D with nx := u D } { D' with nx := u D' } δ m ⟨fun δ m z => h2 D D' δ m l z, l.rt, l.bk, l.ct⟩ q
theorem dss_nil : DSs X [] sNext := dss_of pss_nil (fun _ _ _ _ l q => l.nx _ _ q) fun σ H I δ m D ok rl q => q σ H I (Same.refl _) ok rl
theorem dss_cons (h1 : DS X st t) (h2 : DSs X rest u) : DSs X (st :: rest) (sSeq t u) := by
  refine dss_of (pss_cons h1.ps h2.ps) (mo_sSeq h1.mono h2.mono) fun σ H I δ m D ok rl q => ?_
  refine ⟨I, δ, m, ok, rl, h1.mono { low X.K I D with nx := u (low X.K I D) } _ δ m ⟨fun δ' m' z σ' H' I' s' o' r' => ⟨I', δ', m', o', r', h2.mono _ _ δ' m' (low_le s' D) z⟩, fun _ _ z => z, fun _ _ z => z, fun _ _ z => z⟩ q⟩
theorem dss_one (h1 : DS X st t) : DSs X [st] t := ⟨h1.mono, pss_one h1.ps⟩
def sNever : TSd := fun _ _ _ => False
theorem ds_never : DS X st sNever := ds_of ps_never (fun _ _ _ _ _ q => q) fun _ _ _ _ _ _ _ _ q => q
def sDrop (te : TD) : TSd := fun D δ m => te δ m fun _ m1 => D.nx δ m1
def sRet (te : TD) : TSd := fun D δ m => te δ m D.rt
theorem ds_ret (he : DE X e te) : DS X (.Return (some e) pos) (sRet te) := by
  refine ds_of (ps_ret he.pe) (fun D D' δ m l q => he.mono δ m _ _ (fun _ _ z => l.rt _ _ z) q) fun σ H I δ m D ok rl q => ?_
  exact ⟨I, δ, m, ok, rl, he.mono δ m _ _ (fun d m1 q1 v H1 I1 s1 o1 i1 => q1 v H1 I1 s1 o1 i1) q⟩
def sIf (c : TBd) (t u : TSd) : TSd := fun D δ m => c δ m fun b m1 => if b = true then t D δ m1 else u D δ m1
theorem ds_if {c : Expr} {a b : List Stmt} {tc : TBd} (hc : DT X c tc) (ha : DSs X a t) (hb : DSs X b u) : DS X (.If c a b pos) (sIf tc t u) := by
  refine ds_of (ps_if hc.pt ha.ps hb.ps) (fun D D' δ m l q => hc.mono δ m _ _ (fun b m1 z => ?_) q) fun σ H I δ m D ok rl q => ?_
  · cases b with
    | true => exact iteT (ha.mono D D' δ m1 l (by simpa using z))
    | false => exact iteF (hb.mono D D' δ m1 l (by simpa using z))
  · refine ⟨I, δ, m, ok, rl, hc.mono δ m _ _ (fun b m1 q1 H1 I1 s1 o1 => ?_) q⟩
    cases b with
    | true => exact iteT ⟨I1, δ, m1, o1, rl.same s1, ha.mono _ _ δ m1 (low_le s1 D) (by simpa using q1)⟩
    | false => exact iteF ⟨I1, δ, m1, o1, rl.same s1, hb.mono _ _ δ m1 (low_le s1 D) (by simpa using q1)⟩
abbrev TGd := Dv → Dn → M → (Dn → M → Prop) → Prop
structure DG (X : Cx) (tg : Expr) (t : TGd) : Prop where
  mono : ∀ x δ m (Q Q' : Dn → M → Prop), (∀ δ m, Q δ m → Q' δ m) → t x δ m Q → t x δ m Q'
  pg : PG X tg (fun v σ H Q => ∃ I δ m x, Ok X.K H I m ∧ Rl X.K I σ δ ∧ Is X.K I v x ∧ t x δ m (fun δ' m' => ∀ σ' H' I', Same I I' → Ok X.K H' I' m' → Rl X.K I' σ' δ' → Q σ' H'))
def dgName (i : Nat) : TGd := fun x δ m Q => Q (δ.set i (some x)) m
theorem PG.imp {tg : Expr} {t t' : TG} (h : PG X tg t) (i : ∀ v σ H Q, t' v σ H Q → t v σ H Q) : PG X tg t' := fun pins s σ H v u Q J r q => h pins s σ H v u Q J r (i v σ H Q q)
theorem dg_name {i : Nat} {x : Str} (hN : X.N.Nodup) (hi : X.N[i]? = some x) (hx : Loc X.env.scope x) (hf : X.fn x = true ∨ X.env.scope.names.lookup x = some .local := by first | exact .inl rfl | exact .inr rfl | assumption) : DG X (.Name x pos) (dgName i) :=
  ⟨fun _ _ _ _ _ h q => h _ _ q, PG.imp (pg_name hN hi hx hf) fun v σ H Q ⟨I, δ, m, x, ok, rl, is, q⟩ => q _ H I (Same.refl _) ok (rl.set i is)⟩
abbrev TGds := List Dv → Dn → M → (Dn → M → Prop) → Prop
structure DGs (X : Cx) (ts : List Expr) (t : TGds) : Prop where
  mono : ∀ x δ m (Q Q' : Dn → M → Prop), (∀ δ m, Q δ m → Q' δ m) → t x δ m Q → t x δ m Q'
  pgs : PGs X ts (fun vs σ H Q => ∃ I δ m xs, Ok X.K H I m ∧ Rl X.K I σ δ ∧ IsAll X.K I vs xs ∧ t xs δ m (fun δ' m' => ∀ σ' H' I', Same I I' → Ok X.K H' I' m' → Rl X.K I' σ' δ' → Q σ' H'))
def dgNil : TGds := fun xs δ m Q => xs = [] ∧ Q δ m
def dgCons (t : TGd) (u : TGds) : TGds
  | x :: r, δ, m, Q => t x δ m fun δ' m' => u r δ' m' Q
  | [], _, _, _ => False
theorem PGs.imp {ts : List Expr} {t t' : TGs} (h : PGs X ts t) (i : ∀ v σ H Q, t' v σ H Q → t v σ H Q) : PGs X ts t' := fun pins s σ H v u Q J r q => h pins s σ H v u Q J r (i v σ H Q q)
theorem dgs_nil : DGs X [] dgNil := ⟨fun _ _ _ _ _ h ⟨e, q⟩ => ⟨e, h _ _ q⟩, PGs.imp pgs_nil fun vs σ H Q ⟨I, δ, m, xs, ok, rl, is, e, q⟩ => by
  subst e; cases is; exact ⟨rfl, q σ H I (Same.refl _) ok rl⟩⟩
theorem dgs_cons {e : Expr} {es : List Expr} {t : TGd} {u : TGds} (h1 : DG X e t) (h2 : DGs X es u)
    (hs : (assignEach (e :: es) X.env).map (·.2) = assign e X.env :: (assignEach es X.env).map (·.2) := by rfl) : DGs X (e :: es) (dgCons t u) := by
  refine ⟨fun xs δ m Q Q' h q => ?_, PGs.imp (pgs_cons h1.pg h2.pgs hs) fun vs σ H Q ⟨I, δ, m, xs, ok, rl, is, q⟩ => ?_⟩
  · cases xs with
    | nil => exact q.elim
    | cons x r => exact h1.mono x δ m _ _ (fun δ' m' z => h2.mono r δ' m' Q Q' h z) q
  · cases xs with
    | nil => exact q.elim
    | cons x r =>
      cases is with
      | cons i1 ir =>
        refine ⟨_, _, rfl, I, δ, m, x, ok, rl, i1, h1.mono x δ m _ _ (fun δ' m' z σ' H' I' s' o' r' => ?_) q⟩
        exact ⟨I', δ', m', r, o', r', IsAll.same s' ir, h2.mono r δ' m' _ _ (fun δ2 m2 z2 σ2 H2 I2 s2 o2 r2 => z2 σ2 H2 I2 (s'.trans s2) o2 r2) z⟩
def dgTup (n : Nat) (t : TGds) : TGd
  | .d (.tuple xs), δ, m, Q => xs.length = n ∧ t (xs.map .d) δ m Q
  | _, _, _, _ => False
theorem dg_tup {es : List Expr} {k : Nat} {t : TGds} {n : Nat} (hc : X.calm = true) (h : DGs X es t)
    (hn : (assignEach es X.env).length = n := by rfl) (hst : (assignEach es X.env).findIdx? (·.1) = none := by rfl) : DG X (.Tuple es k pos) (dgTup n t) := by
  have inv : ∀ {x δ m Q}, dgTup n t x δ m Q → ∃ xs, x = .d (.tuple xs) ∧ xs.length = n ∧ t (xs.map .d) δ m Q := fun {x δ m Q} q => by
    unfold dgTup at q; split at q
    · exact ⟨_, rfl, q⟩
    · exact q.elim
  refine ⟨fun x δ m Q Q' hq q => ?_, PG.imp (pg_tup hc h.pgs hn hst) fun v σ H Q ⟨I, δ, m, x, ok, rl, is, q⟩ => ?_⟩
  · obtain ⟨xs, rfl, hl, q⟩ := inv q
    exact ⟨hl, h.mono _ δ m Q Q' hq q⟩
  · obtain ⟨xs, rfl, hl, q⟩ := inv q
    cases (show Dp X.K I v (.tuple xs) from is) with
    | tup sq al =>
      exact ⟨_, _, rfl, SqT.same ok.im sq, by rw [paired_len (isAll_of al), List.length_map]; exact hl, I, δ, m, _, ok, rl, isAll_of al, q⟩
def sAsg (te : TD) (g : TGd) : TSd := fun D δ m => te δ m fun x m1 => g x δ m1 D.nx
theorem mo_sAsg {te : TD} {g : TGd} (h : Mo te) (hg : ∀ x δ m (Q Q' : Dn → M → Prop), (∀ δ m, Q δ m → Q' δ m) → g x δ m Q → g x δ m Q') : MoS (sAsg te g) := fun D D' δ m l q => h δ m _ _ (fun x m1 z => hg x δ m1 _ _ l.nx z) q
theorem ds_asg {tg e : Expr} {te : TD} {g : TGd} (he : DE X e te) (hg : DG X tg g) (hs : swapsWithSole [tg] e pos.line X.env = pure false := by rfl) (hw : swappedStores [tg] e X.env = pure none := by rfl)
    (h1 : (assignEach [tg] X.env).map (·.2) = [assign tg X.env] := by rfl) : DS X (.Assign [tg] e pos) (sAsg te g) := by
  refine ds_of (ps_asg he.pe hg.pg hs hw h1) (mo_sAsg he.mono hg.mono) fun σ H I δ m D ok rl q => ?_
  refine ⟨I, δ, m, ok, rl, he.mono δ m _ _ (fun x m1 q1 v H1 I1 s1 o1 i1 => ?_) q⟩
  exact ⟨I1, δ, m1, x, o1, rl.same s1, i1, hg.mono x δ m1 _ _ (fun δ2 m2 z σ2 H2 I2 s2 o2 r2 => z σ2 H2 I2 (s1.trans s2) o2 r2) q1⟩
theorem ds_set {i : Nat} {x : Str} {e : Expr} {te : TD} {pos' : Pos} (hN : X.N.Nodup) (hi : X.N[i]? = some x) (hx : Loc X.env.scope x) (he : DE X e te) (hs : swapsWith e (some (.Name x pos')) pos.line X.env = pure false := by rfl) (hf : X.fn x = true ∨ X.env.scope.names.lookup x = some .local := by first | exact .inl rfl | exact .inr rfl | assumption) :
    DS X (.Assign [.Name x pos'] e pos) (sAsg te (dgName i)) := by
  refine ds_of (ps_set hN hi hx he.pe hs hf) (mo_sAsg he.mono fun _ _ _ _ _ h q => h _ _ q) fun σ H I δ m D ok rl q => ?_
  exact ⟨I, δ, m, ok, rl, he.mono δ m _ _ (fun x m1 q1 v H1 I1 s1 o1 i1 => q1 _ H1 I1 s1 o1 ((rl.same s1).set i i1)) q⟩
def sWhile (c : TBd) (tb : TSd) : TSd := fun D δ m => ∃ W : Nat → Dn → M → Prop, (∃ n, W n δ m) ∧ ∀ n δ m, W n δ m →
  c δ m fun b m1 => if b = true then ∃ N : Dn → M → Prop, (∀ δ' m', N δ' m' → ∃ n', n' < n ∧ W n' δ' m') ∧ tb { D with nx := N, ct := N, bk := D.nx } δ m1 else D.nx δ m1
theorem ds_while {c : Expr} {body : List Stmt} {tc : TBd} {tb : TSd} (hp : PassesOwn (model X.prog X.w) X.A X.env X.xe) (hc : DT X c tc) (hb : DSs X body tb) : DS X (.While c body [] pos) (sWhile tc tb) := by
  refine ds_of (ps_while hp hc.pt hb.ps) (fun D D' δ m l ⟨W, w0, q⟩ => ⟨W, w0, fun n δ m w => hc.mono δ m _ _ (fun b m1 z => ?_) (q n δ m w)⟩) fun σ H I δ m D ok rl ⟨W, ⟨n0, w0⟩, q⟩ => ?_
  · cases b with
    | true =>
      obtain ⟨N, hN, z⟩ : ∃ N : Dn → M → Prop, (∀ δ' m', N δ' m' → ∃ n', n' < n ∧ W n' δ' m') ∧ tb { D with nx := N, ct := N, bk := D.nx } δ m1 := by simpa using z
      exact iteT ⟨N, hN, hb.mono { D with nx := N, ct := N, bk := D.nx } _ δ m1 ⟨fun _ _ z => z, l.rt, l.nx, fun _ _ z => z⟩ z⟩
    | false => exact iteF (l.nx _ _ (by simpa using z))
  · refine ⟨fun n σ' H' => ∃ I' δ' m', Same I I' ∧ Ok X.K H' I' m' ∧ Rl X.K I' σ' δ' ∧ W n δ' m', ⟨n0, I, δ, m, Same.refl _, ok, rl, w0⟩, ?_⟩
    rintro n σ1 H1 ⟨I1, δ1, m1, s1, o1, r1, w1⟩
    refine ⟨I1, δ1, m1, o1, r1, hc.mono δ1 m1 _ _ (fun b m2 z H2 I2 s2 o2 => ?_) (q n δ1 m1 w1)⟩
    cases b with
    | true =>
      obtain ⟨N, hN, z⟩ : ∃ N : Dn → M → Prop, (∀ δ' m', N δ' m' → ∃ n', n' < n ∧ W n' δ' m') ∧ tb { low X.K I D with nx := N, ct := N, bk := (low X.K I D).nx } δ1 m2 := by simpa using z
      have fin : ∀ δ' m', N δ' m' → ∀ σ' H' I', Same I2 I' → Ok X.K H' I' m' → Rl X.K I' σ' δ' → ∃ n', n' < n ∧ ∃ I' δ' m', Same I I' ∧ Ok X.K H' I' m' ∧ Rl X.K I' σ' δ' ∧ W n' δ' m' := fun δ' m' hn σ' H' I' s' o' r' => by
        obtain ⟨n', hl, w'⟩ := hN δ' m' hn
        exact ⟨n', hl, I', δ', m', (s1.trans s2).trans s', o', r', w'⟩
      refine iteT ⟨fun σ' H' => ∃ n', n' < n ∧ ∃ I' δ' m', Same I I' ∧ Ok X.K H' I' m' ∧ Rl X.K I' σ' δ' ∧ W n' δ' m', fun σ' H' z => z, I2, δ1, m2, o2, r1.same s2, ?_⟩
      refine hb.mono { low X.K I D with nx := N, ct := N, bk := (low X.K I D).nx } _ δ1 m2 ⟨fun δ' m' hn => fin δ' m' hn, fun d m' z v H' I' s' => z v H' I' ((s1.trans s2).trans s'), fun δ' m' z σ' H' I' s' => z σ' H' I' ((s1.trans s2).trans s'), fun δ' m' hn => fin δ' m' hn⟩ z
    | false => exact iteF ((show (low X.K I D).nx δ1 m2 by simpa using z) σ1 H2 I2 (s1.trans s2) o2 (r1.same s2))
end
end DL
namespace DL
open PySem PySem.Spec PyProof.Rows L2
section
variable {P : Program} {w : World} {K : PySem.W.Frag} {mg : Str → Option Value} {base : Heap}
def startD (N : List Str) (ds : List Dv) : Dn := ds.map some ++ List.replicate (N.length - ds.length) none
theorem rl_start {I : Hp} {N : List Str} {vs : List V} {ds : List Dv} (h : IsAll K I vs ds) : Rl K I (L2.start N vs) (startD N ds) := by
  unfold L2.start startD
  rw [paired_len h]
  refine paired_app ?_ ?_
  · have go : ∀ {vs : List V} {ds : List Dv}, IsAll K I vs ds → Paired (fun (v : Option V) (d : Option Dv) => ∀ x, d = some x → ∃ y, v = some y ∧ Is K I y x) (vs.map some) (ds.map some) := by
      intro vs ds h
      induction h with
      | nil => exact .nil
      | cons r t ih => exact .cons (fun x e => ⟨_, rfl, by cases e; exact r⟩) ih
    exact go h
  · have go : ∀ n : Nat, Paired (fun (v : Option V) (d : Option Dv) => ∀ x, d = some x → ∃ y, v = some y ∧ Is K I y x) (List.replicate n none) (List.replicate n none) := by
      intro n
      induction n with
      | zero => exact .nil
      | succ n ih => exact .cons (fun x e => by cases e) ih
    exact go _
theorem Fun.okD {x qual : Str} {st : Stmt} {f : Addr} {fd : FuncData} {N ps : List Str} {k : Nat} {F : FD} (G : Fun K x qual st f fd) (S : FnScope N ps (defScope st)) (hF : MoA F) (len : ∀ ds m Q, F ds m Q → ds.length = ps.length)
    (hbody : ∀ (cdv : Value) (A : Around) (outer : List Env) (s : Shared) (H : Hp) (E : XK), Room k (A.deeper (envOfC qual (defScope st) s.heap.objs.size f cdv)) →
      ∃ t, DSs (cxOf CX0 P w K mg base N qual (defScope st) f cdv A outer s H E).nox (defBody st) t ∧ ∀ ds m Q, F ds m Q → t { nx := fun _ m' => Q (.d .none) m', rt := Q } (startD N ds) m) : FnOk P w K mg base CX0 (k + 1) f fd ps (spD K F) := by
  refine G.ok S (fun vs H Q E h => ?_) (fun cdv A outer s H vs Q E hr h => ?_)
  · obtain ⟨I, ds, m, ok, is, q⟩ := h
    rw [paired_len is]
    exact len ds m _ q
  · obtain ⟨I, ds, m, ok, is, q⟩ := h
    obtain ⟨t, ht, hq⟩ := hbody cdv A outer s H E hr
    refine ⟨_, ht.ps, I, startD N ds, m, ok, rl_start is, ?_⟩
    refine ht.mono { nx := fun _ m' => ∀ v H' I', Same I I' → Ok K H' I' m' → Is K I' v (.d .none) → Q v H', rt := fun d m' => ∀ v H' I', Same I I' → Ok K H' I' m' → Is K I' v d → Q v H' } _ _ _ ⟨fun _ m' z σ' H' I' s' o' _ => z _ H' I' s' o' isN, fun _ _ z => z, fun _ _ z => z.elim, fun _ _ z => z.elim⟩ (hq ds m _ q)
end
structure ItD (K : PySem.W.Frag) (J : It) (xs : List Dv) (still : M → Prop) (I : Hp) : Prop where
  go : ∀ i H I' m, Same I I' → Ok K H I' m → still m → i < xs.length → J.go i H
  yld : ∀ i H I' m x H', Same I I' → Ok K H I' m → still m → J.yld i H x H' → ∃ I'' d, Same I' I'' ∧ Ok K H' I'' m ∧ (i < xs.length → xs[i]? = some d ∧ Is K I'' x d)
  stop : ∀ H I' m, Same I I' → Ok K H I' m → still m → J.stop xs.length H
abbrev TId := Dn → M → (List Dv → (M → Prop) → M → Prop) → Prop
abbrev MoI (w : TId) : Prop := ∀ δ m (R R' : List Dv → (M → Prop) → M → Prop), (∀ xs st m, R xs st m → R' xs st m) → w δ m R → w δ m R'
def upI (K : PySem.W.Frag) (w : TId) : TI := fun σ H R => ∃ I δ m, Ok K H I m ∧ Rl K I σ δ ∧ w δ m (fun xs still m' => ∀ J H' I', Same I I' → Ok K H' I' m' → ItD K J xs still I' → R J H')
structure DI (X : Cx) (tg iter : Expr) (w : TId) : Prop where
  mono : MoI w
  pi : PI X tg iter (upI X.K w)
theorem PI.imp {X : Cx} {tg e : Expr} {t t' : TI} (h : PI X tg e t) (i : ∀ σ H Q, t' σ H Q → t σ H Q) : PI X tg e t' := fun pins s σ H Q I q => h pins s σ H Q I (i σ H Q q)
section
variable {X : Cx} {tg : Expr} {pos : Pos}
def dRng1 (ta : TAd) : TId := fun δ m R => ta δ m fun ds m1 => ∃ j : Int, ds = [.d (.int j)] ∧ (-(2 ^ 62) ≤ j ∧ j < 2 ^ 62) ∧ R ((List.range j.toNat).map fun i => .d (.int ((i : Nat) : Int))) (fun _ => True) m1
theorem di_range1 {a : Expr} {ta : TAd} {p : Pos} (hg : Gl X "range") (hm : X.mg "range" = none) (ha : DA X [a] ta) (hs : starEach [a] X.env = [(false, eval a X.env)] := by rfl) : DI X tg (.Call (.Name "range" p) [a] [] pos) (dRng1 ta) := by
  refine ⟨fun δ m R R' h q => ha.mono δ m _ _ (fun ds m1 ⟨j, e, b, z⟩ => ⟨j, e, b, h _ _ _ z⟩) q, PI.imp (pi_range1 hg hm ha.pa hs) fun σ H R ⟨I, δ, m, ok, rl, q⟩ => ?_⟩
  refine ⟨I, δ, m, ok, rl, ha.mono δ m _ _ (fun ds m1 ⟨j, e, b, z⟩ vs H1 I1 s1 o1 i1 => ?_) q⟩
  subst e
  cases i1 with
  | cons h1 ht =>
    cases ht
    have h1 := h1.int
    subst h1
    refine ⟨j, rfl, b.1, b.2, z _ H1 I1 s1 o1 ⟨fun i H I' m _ _ _ hi => ?_, fun i H I' m x H' _ ok' _ y => ?_, fun H I' m _ _ _ => ?_⟩⟩
    · show i < j.toNat
      simpa [-Int.lt_toNat] using hi
    · obtain ⟨rfl, rfl⟩ := y
      refine ⟨I', .d (.int (i : Nat)), Same.refl _, ok', fun hi => ⟨?_, ?_⟩⟩
      · rw [List.length_map, List.length_range] at hi
        rw [List.getElem?_map, List.getElem?_range hi]; rfl
      · rw [Int.zero_add]; exact isI _
    · show j.toNat ≤ _
      simp
def dItL (tl : TD) : TId := fun δ m R => tl δ m fun x m1 => ∃ xs, x = .d (.list xs) ∧ R (xs.map .d) (fun _ => True) m1
theorem di_list {l : Expr} {tl : TD} (hl : DE X l tl) : DI X tg l (dItL tl) := by
  refine ⟨fun δ m R R' h q => hl.mono δ m _ _ (fun x m1 ⟨xs, e, z⟩ => ⟨xs, e, h _ _ _ z⟩) q, PI.imp (pi_list hl.pe) fun σ H R ⟨I, δ, m, ok, rl, q⟩ => ?_⟩
  refine ⟨I, δ, m, ok, rl, hl.mono δ m _ _ (fun x m1 ⟨xs, e, z⟩ v H1 I1 s1 o1 i1 => ?_) q⟩
  subst e
  cases (show Dp X.K I1 v (.list xs) from i1) with
  | @lst a vs _ sq al =>
    refine ⟨a, rfl, ⟨vs, Same.seq o1.im sq⟩, z _ H1 I1 s1 o1 ⟨fun i H I' m s' o' _ hi => ?_, fun i H I' m x H' s' o' _ y => ?_, fun H I' m s' o' _ => ?_⟩⟩
    · rw [List.length_map, ← List.length_map (f := Dv.d), ← paired_len (isAll_of al)] at hi
      exact ⟨vs, vs[i], Same.seq (s'.trans o'.im) sq, by simp [hi]⟩
    · obtain ⟨rfl, y⟩ := y
      have hx := y vs (Same.seq (s'.trans o'.im) sq)
      have hb : i < vs.length := (List.getElem?_eq_some_iff.mp hx).1
      have hb2 : i < (xs.map Dv.d).length := by rw [← paired_len (isAll_of al)]; exact hb
      obtain ⟨v', h1, h2⟩ := paired_get (isAll_of al) (List.getElem?_eq_getElem hb2)
      rw [hx] at h1; cases h1
      exact ⟨I', _, Same.refl _, o', fun _ => ⟨List.getElem?_eq_getElem hb2, h2.same s'⟩⟩
    · exact ⟨vs, Same.seq (s'.trans o'.im) sq, by rw [paired_len (isAll_of al)]; exact Nat.le_refl _⟩
theorem Ok.lst {K : PySem.W.Frag} {H I : Hp} {m : M} {a : Addr} {xs : List Dv} (ok : Ok K H I m) (h : m a = some (.lst xs)) : ∃ vs, H a = some (.lst vs) ∧ IsAll K I vs xs := by
  obtain ⟨o, h1, h2⟩ := ok.mu a _ h
  cases o <;> first | exact h2.elim | exact ⟨_, h1, h2⟩
def sFor (w : TId) (g : TGd) (tb : TSd) : TSd := fun D δ m => w δ m fun xs still m1 => ∃ Pv : Nat → Dn → M → Prop, Pv 0 δ m1 ∧ (∀ i δ m, Pv i δ m → still m) ∧
  (∀ i x δ m, xs[i]? = some x → Pv i δ m → g x δ m fun δ2 m2 => tb { D with nx := Pv (i + 1), ct := Pv (i + 1), bk := D.nx } δ2 m2) ∧ ∀ δ m, Pv xs.length δ m → D.nx δ m
theorem ds_for {iter : Expr} {body : List Stmt} {w : TId} {g : TGd} {tb : TSd} (hp : PassesOwn (model X.prog X.w) X.A X.env X.xe) (hc : X.calm = true) (hi : DI X tg iter w) (hg : DG X tg g) (hb : DSs X body tb)
    (hs : ∀ x, foldedSetIterable iter X.env x = pure x := by intro _; rfl) : DS X (.For tg iter body [] pos) (sFor w g tb) := by
  refine ds_of (ps_for hp hc hi.pi hg.pg hb.ps hs) (fun D D' δ m l q => hi.mono δ m _ _ (fun xs st m1 ⟨Pv, p0, ps, pt, pd⟩ => ⟨Pv, p0, ps, fun i x δ m hx p => hg.mono x δ m _ _ (fun δ2 m2 z => hb.mono { D with nx := Pv (i + 1), ct := Pv (i + 1), bk := D.nx } _ δ2 m2 ⟨fun _ _ z => z, l.rt, l.nx, fun _ _ z => z⟩ z) (pt i x δ m hx p), fun δ m p => l.nx _ _ (pd δ m p)⟩) q) fun σ H I δ m D ok rl q => ?_
  refine ⟨I, δ, m, ok, rl, hi.mono δ m _ _ (fun xs st m1 ⟨Pv, p0, ps, pt, pd⟩ J H1 I1 s1 o1 it => ?_) q⟩
  refine ⟨fun i n σ' H' => n = xs.length - i ∧ i ≤ xs.length ∧ ∃ I' δ' m', Same I1 I' ∧ Ok X.K H' I' m' ∧ Rl X.K I' σ' δ' ∧ Pv i δ' m', ⟨xs.length, by simp, Nat.zero_le _, I1, δ, m1, Same.refl _, o1, rl.same s1, p0⟩, ?_⟩
  rintro i n σ2 H2 ⟨rfl, hi2, I2, δ2, m2, s2, o2, r2, p2⟩
  have st2 := ps i δ2 m2 p2
  by_cases hlt : i < xs.length
  · refine .inr ⟨it.go i H2 I2 m2 s2 o2 st2 hlt, fun σ' H' => ∃ I' δ' m', Same I1 I' ∧ Ok X.K H' I' m' ∧ Rl X.K I' σ' δ' ∧ Pv (i + 1) δ' m', fun σ' H' z => ⟨xs.length - (i + 1), by omega, rfl, hlt, z⟩, fun x H' y => ?_⟩
    obtain ⟨I3, d, s3, o3, hd⟩ := it.yld i H2 I2 m2 x H' s2 o2 st2 y
    obtain ⟨hx, ix⟩ := hd hlt
    refine ⟨I3, δ2, m2, d, o3, r2.same s3, ix, hg.mono d δ2 m2 _ _ (fun δ4 m4 z σ4 H4 I4 s4 o4 r4 => ?_) (pt i d δ2 m2 hx p2)⟩
    refine ⟨I4, δ4, m4, o4, r4, hb.mono { low X.K I D with nx := Pv (i + 1), ct := Pv (i + 1), bk := (low X.K I D).nx } _ δ4 m4 ⟨fun δ5 m5 z σ5 H5 I5 s5 o5 r5 => ?_, fun d5 m5 z v5 H5 I5 s5 => ?_, fun δ5 m5 z σ5 H5 I5 s5 => ?_, fun δ5 m5 z σ5 H5 I5 s5 o5 r5 => ?_⟩ z⟩
    · exact ⟨I5, δ5, m5, ((s2.trans s3).trans s4).trans s5, o5, r5, z⟩
    · exact z v5 H5 I5 ((((s1.trans s2).trans s3).trans s4).trans s5)
    · exact z σ5 H5 I5 ((((s1.trans s2).trans s3).trans s4).trans s5)
    · exact ⟨I5, δ5, m5, ((s2.trans s3).trans s4).trans s5, o5, r5, z⟩
  · have e : i = xs.length := by omega
    subst e
    exact .inl ⟨it.stop H2 I2 m2 s2 o2 st2, pd δ2 m2 p2 σ2 H2 I2 (s1.trans s2) o2 r2⟩
end
end DL
namespace DL
open PySem PySem.Spec PyProof.Rows L2
def delM (m : M) (a : Addr) : M := fun b => if b = a then none else m b
theorem delM_same {m : M} {a : Addr} : delM m a a = none := by unfold delM; rw [if_pos rfl]
theorem delM_ne {m : M} {a b : Addr} (h : b ≠ a) : delM m a b = m b := by unfold delM; rw [if_neg h]
theorem delM_setM {m : M} {a : Addr} {o : MO} (h : m a = none) : delM (setM m a o) a = m := by
  funext b
  by_cases e : b = a
  · subst e; rw [delM_same, h]
  · rw [delM_ne e, setM_ne e]
theorem setM_delM {m : M} {a : Addr} {o : MO} (h : m a = some o) : setM (delM m a) a o = m := by
  funext b
  by_cases e : b = a
  · subst e; rw [setM_same, h]
  · rw [setM_ne e, delM_ne e]
theorem setM_setM {m : M} {a : Addr} {o o' : MO} : setM (setM m a o) a o' = setM m a o' := by
  funext b
  by_cases e : b = a
  · subst e; rw [setM_same, setM_same]
  · rw [setM_ne e, setM_ne e, setM_ne e]
def wipeD (δ : Dn) : List Nat → Dn
  | [] => δ
  | v :: vs => (wipeD δ vs).set v none
theorem Rl.wipe {K : PySem.W.Frag} {I : Hp} {σ : St} {δ : Dn} (h : Rl K I σ δ) : ∀ vs : List Nat, Rl K I (wipe σ vs) (wipeD δ vs)
  | [] => h
  | v :: vs => paired_set (fun x e => by cases e) v (Rl.wipe h vs)
theorem Ok.freeze {K : PySem.W.Frag} {H I : Hp} {m : M} {p : Addr} {xs : List PyData} (ok : Ok K H I m) (hp : m p = some (.lst (xs.map .d))) :
    ∃ I', Same I I' ∧ Ok K H I' (delM m p) ∧ Is K I' (.ref p) (.d (.list xs)) := by
  obtain ⟨vs, hv, al⟩ := ok.lst hp
  have hI : I p = none := by
    cases e : I p with
    | none => rfl
    | some u => have := ok.dj p u e; rw [hp] at this; cases this
  have sm : Same I (upd I p (.lst vs)) := same_new (H := H) hI
  refine ⟨upd I p (.lst vs), sm, ⟨fun a o e => ?_, fun a o e => ?_, fun a q e => ?_⟩, Dp.lst (SqL.of upd_same) (DpAll.same sm (dpAll_of al))⟩
  · by_cases h : a = p
    · subst h; rw [upd_same] at e; cases e; exact hv
    · rw [upd_ne h] at e; exact ok.im a o e
  · by_cases h : a = p
    · subst h; exact delM_same
    · rw [upd_ne h] at e; rw [delM_ne h]; exact ok.dj a o e
  · have h : a ≠ p := fun z => by subst z; rw [delM_same] at e; cases e
    rw [delM_ne h] at e
    obtain ⟨o, h1, h2⟩ := ok.mu a q e
    exact ⟨o, h1, h2.same sm⟩
def dLc (w : TId) (g : TGd) (tt : TBd) (te : TD) (vs : List Nat) : TD := fun δ m Q => w δ m fun xs still m1 => xs.length ≤ 16777216 ∧ ∀ D, m1 D = none → ∃ Pv : Nat → List PyData → M → Prop, Pv 0 [] m1 ∧
  (∀ i acc m, Pv i acc m → m D = none ∧ still (setM m D (.lst (acc.map .d)))) ∧
  (∀ i x acc m, xs[i]? = some x → Pv i acc m → g x (wipeD δ vs) (setM m D (.lst (acc.map .d))) fun δ2 m2 => tt δ2 m2 fun b m3 => if b = true then te δ2 m3 fun y m4 => ∃ z, y = .d z ∧ m4 D = some (.lst (acc.map .d)) ∧ Pv (i + 1) (acc ++ [z]) (delM m4 D)
    else m3 D = some (.lst (acc.map .d)) ∧ Pv (i + 1) acc (delM m3 D)) ∧ ∀ acc m, Pv xs.length acc m → Q (.d (.list acc)) m
section
variable {X : Cx}
def dYes : TBd := fun _ m Q => Q true m
structure DTs (X : Cx) (ifs : List Expr) (t : TBd) : Prop where
  mono : Mo t
  pts : PTs X ifs (upB X.K t)
theorem dts_nil : DTs X [] dYes := ⟨fun _ _ _ _ h q => h _ _ q, fun pins s σ H Q J ⟨I, δ, m, ok, rl, q⟩ => pts_nil pins s σ H Q J (q H I (Same.refl _) ok)⟩
theorem mo_dLc {w : TId} {g : TGd} {tt : TBd} {te : TD} {vs : List Nat} (hw : MoI w) : Mo (dLc w g tt te vs) := fun δ m Q Q' hq q =>
  hw δ m _ _ (fun xs st m1 ⟨hl, z⟩ => ⟨hl, fun D hD => let ⟨Pv, p0, ps, pt, pd⟩ := z D hD; ⟨Pv, p0, ps, pt, fun acc m p => hq _ _ (pd acc m p)⟩⟩) q
theorem wipe_set1 {σ : St} {i : Nat} {v : V} : wipe ((wipe σ [i]).set i (some v)) [i] = wipe σ [i] := by
  show (((σ.set i none).set i (some v)).set i none) = σ.set i none
  simp
theorem lc_up {w : TId} {g : TGd} {gH : TG} {tt : TBd} {te : TD} {vs : List Nat} {σ : St} {H I : Hp} {δ : Dn} {m : M} {Q : QD} (hw : MoI w) (ht : Mo tt) (he : Mo te)
    (gm : ∀ x δ m (Q Q' : Dn → M → Prop), (∀ δ m, Q δ m → Q' δ m) → g x δ m Q → g x δ m Q')
    (gok : ∀ x v H I δ m (R : Dn → M → Prop), Ok X.K H I m → Rl X.K I (wipe σ vs) δ → Is X.K I v x → g x δ m R → gH v (wipe σ vs) H fun σ2 H2 => wipe σ2 vs = wipe σ vs ∧ H2 = H ∧ ∃ δ2, Rl X.K I σ2 δ2 ∧ R δ2 m)
    (gmono : ∀ v σ H (R R' : St → Hp → Prop), (∀ σ H, R σ H → R' σ H) → gH v σ H R → gH v σ H R')
    (ok : Ok X.K H I m) (rl : Rl X.K I σ δ) (q : dLc w g tt te vs δ m Q) : tLc (upI X.K w) gH (upB X.K tt) (up X.K te) vs σ H (Qd X.K I Q) := by
  refine ⟨I, δ, m, ok, rl, hw δ m _ _ (fun xs st m1 ⟨hlen, z⟩ J H1 I1 s1 o1 it D hD => ?_) q⟩
  obtain ⟨Pv, p0, ps, pt, pd⟩ := z D (o1.freeM hD)
  have hz : sizeLine = 16777216 := sizeLine_eq
  refine ⟨fun i n H2 => n = xs.length - i ∧ i ≤ xs.length ∧ ∃ I2 acc m2, Same I1 I2 ∧ Ok X.K H2 I2 (setM m2 D (.lst (acc.map .d))) ∧ acc.length ≤ i ∧ Pv i acc m2, ⟨xs.length, by simp, Nat.zero_le _, I1, [], m1, Same.refl _, by exact o1.newM hD (show IsAll X.K I1 [] [] from .nil), Nat.le_refl _, p0⟩, ?_⟩
  rintro i n H2 ⟨rfl, hi2, I2, acc, m2, s2, o2, ha, p2⟩
  obtain ⟨hD2, st2⟩ := ps i acc m2 p2
  by_cases hlt : i < xs.length
  · refine .inr ⟨it.go i H2 I2 _ s2 o2 st2 hlt, fun H' => ∃ I' acc' m', Same I1 I' ∧ Ok X.K H' I' (setM m' D (.lst (acc'.map .d))) ∧ acc'.length ≤ i + 1 ∧ Pv (i + 1) acc' m', fun H' z => ⟨xs.length - (i + 1), by omega, rfl, hlt, z⟩, fun x H' y => ?_⟩
    obtain ⟨I3, d, s3, o3, hd⟩ := it.yld i H2 I2 _ x H' s2 o2 st2 y
    obtain ⟨hx, ix⟩ := hd hlt
    refine gmono _ _ _ _ _ (fun σ4 H4 z4 => ?_) (gok d x H' I3 (wipeD δ vs) _ _ o3 (((rl.same s1).same (s2.trans s3)).wipe vs) ix (pt i d acc m2 hx p2))
    obtain ⟨e4, rfl, δ4, r4, z4⟩ := z4
    refine ⟨e4, I3, δ4, _, o3, r4, ht _ _ _ _ (fun b m5 z5 H5 I5 s5 o5 => ?_) z4⟩
    cases b with
    | false =>
      obtain ⟨z5, p5⟩ : m5 D = some (.lst (acc.map .d)) ∧ Pv (i + 1) acc (delM m5 D) := by simpa using z5
      exact iteF ⟨I5, acc, delM m5 D, (s2.trans s3).trans s5, by rw [setM_delM z5]; exact o5, by omega, p5⟩
    | true =>
      refine iteT ⟨I5, δ4, m5, o5, r4.same s5, he _ _ _ _ (fun y6 m6 z6 v6 H6 I6 s6 o6 i6 => ?_) (show te δ4 m5 _ by simpa using z5)⟩
      obtain ⟨w6, rfl, hm6, p6⟩ := z6
      obtain ⟨ws, hw6, bl⟩ := o6.lst hm6
      have hlen2 : ws.length = acc.length := by rw [paired_len bl, List.length_map]
      refine ⟨ws, hw6, by rw [hlen2]; omega, I6, acc ++ [w6], delM m6 D, ((s2.trans s3).trans s5).trans s6, ?_, by rw [List.length_append]; simpa using ha, p6⟩
      have e6 : setM (delM m6 D) D (.lst ((acc ++ [w6]).map .d)) = setM m6 D (.lst ((acc ++ [w6]).map .d)) := by
        funext b
        by_cases e : b = D
        · subst e; rw [setM_same, setM_same]
        · rw [setM_ne e, setM_ne e, delM_ne e]
      rw [e6]
      exact o6.put hm6 (by rw [List.map_append]; exact paired_app bl (.cons i6 .nil))
  · have e : i = xs.length := by omega
    subst e
    refine .inl ⟨it.stop H2 I2 _ s2 o2 st2, ?_⟩
    obtain ⟨I3, s3, o3, is3⟩ := o2.freeze setM_same
    rw [delM_setM hD2] at o3
    exact ⟨I3, _, m2, (s1.trans s2).trans s3, o3, is3, pd acc m2 p2⟩
theorem gok1 {K : PySem.W.Frag} {σ : St} {i : Nat} : ∀ (x : Dv) (v : V) (H I : Hp) (δ : Dn) (m : M) (R : Dn → M → Prop), Ok K H I m → Rl K I (wipe σ [i]) δ → Is K I v x → dgName i x δ m R → gName i v (wipe σ [i]) H fun σ2 H2 => wipe σ2 [i] = wipe σ [i] ∧ H2 = H ∧ ∃ δ2, Rl K I σ2 δ2 ∧ R δ2 m :=
  fun x v H I δ m R ok rl is q => ⟨wipe_set1, rfl, δ.set i (some x), rl.set i is, q⟩
variable {elt iter : Expr} {ifs : List Expr} {scope : Scope} {pos ppos : Pos} {w : TId} {tt : TBd} {te : TD} {x : Str} {i : Nat}
theorem ds_setLc {k : Nat} {y : Str} {py spos : Pos} (hc : X.calm = true) (hN : X.N.Nodup) (hy : X.N[k]? = some y) (hyl : X.env.scope.names.lookup y = some .local)
    (hsw : swapsWith (.ListComp elt [⟨.Name x ppos, iter, ifs, 0⟩] scope pos) (some (.Name y py)) spos.line X.env = pure true) (hi : DI X (.Name x ppos) iter w) (ok : BlkOk X.N X.env.scope scope [(x, i)])
    (hx : X.N[i]? = some x) (hl : ∀ (s : Shared) (H : Hp) (C : Addr) (cl : List (Str × Addr)) (fp : List Addr), (X.blk s H scope (compEnvC scope cl C X.env) fp).env.scope.names.lookup x = some .local)
    (ht : ∀ (s : Shared) (H : Hp) (C : Addr) (cl : List (Str × Addr)) (fp : List Addr), DTs (X.blk s H scope (compEnvC scope cl C X.env) fp) ifs tt)
    (he : ∀ (s : Shared) (H : Hp) (C : Addr) (cl : List (Str × Addr)) (fp : List Addr), DE (X.blk s H scope (compEnvC scope cl C X.env) fp) elt te) (hs : ∀ x, foldedSetIterable iter X.env x = pure x := by intro _; rfl) :
    DS X (.Assign [.Name y py] (.ListComp elt [⟨.Name x ppos, iter, ifs, 0⟩] scope pos) spos) (sAsg (dLc w (dgName i) tt te [i]) (dgName k)) := by
  have ht' : Mo tt := (ht X.s_0 X.H_0 0 [] []).mono
  have he' : Mo te := (he X.s_0 X.H_0 0 [] []).mono
  refine ds_of (ps_setLc (own := [(x, i)]) (g := gName i) (tt := upB X.K tt) (te := up X.K te) hc hN hy hyl hsw hi.pi ok (fun s H C cl fp => pg_name hN hx (.inl (hl s H C cl fp)) (.inr (hl s H C cl fp))) (fun s H C cl fp => (ht s H C cl fp).pts) (fun s H C cl fp => (he s H C cl fp).pe) hs) (mo_sAsg (mo_dLc hi.mono) fun _ _ _ _ _ h q => h _ _ q) fun σ H I δ m D o r q => ?_
  have mono : ∀ σ H (Q Q' : VK), (∀ v H, Q v H → Q' v H) → tLc (upI X.K w) (gName i) (upB X.K tt) (up X.K te) [i] σ H Q → tLc (upI X.K w) (gName i) (upB X.K tt) (up X.K te) [i] σ H Q' := by
    rintro σ H Q Q' hq ⟨I, δ, m, o, r, z⟩
    refine ⟨I, δ, m, o, r, hi.mono δ m _ _ (fun xs st m1 z J H' I' s' o' it D hD => ?_) z⟩
    obtain ⟨W, w0, turn⟩ := z J H' I' s' o' it D hD
    refine ⟨W, w0, fun i m H hw => ?_⟩
    rcases turn i m H hw with ⟨a, b⟩ | b
    · exact .inl ⟨a, hq _ _ b⟩
    · exact .inr b
  refine mono σ H _ _ (fun v H' ⟨I', d, m', s', o', is', q'⟩ => ?_) (lc_up (X := X) (g := dgName i) (gH := gName i) (vs := [i]) (Q := fun d m' => dgName k d δ m' (low X.K I D).nx) hi.mono ht' he' (fun _ _ _ _ _ h q => h _ _ q) gok1 (fun _ _ _ _ _ h q => h _ _ q) o r q)
  exact q' _ H' I' s' o' ((r.same s').set k is')
end
end DL
namespace DL
open PySem PySem.Spec PyProof.Rows L2
theorem atI_all {α β : Type} {R : α → β → Prop} {xs : List α} {ys : List β} (h : Paired R xs ys) {i : Int} {y : β} (e : atI ys i = some y) : ∃ x, atI xs i = some x ∧ R x y := by
  have hl := paired_len h
  unfold atI at e ⊢
  rw [hl]
  cases q : ixN ys.length i with
  | none => rw [q] at e; cases e
  | some j =>
    rw [q] at e
    obtain ⟨x, h1, h2⟩ := paired_get h (show ys[j]? = some y from e)
    exact ⟨x, h1, h2⟩
theorem atI_map {α β : Type} (f : α → β) (xs : List α) (i : Int) : atI (xs.map f) i = (atI xs i).map f := by
  unfold atI
  rw [List.length_map]
  cases ixN xs.length i with
  | none => rfl
  | some j => simp [Option.bind]
def gIx : R2D
  | .d (.list xs), .d (.int i), m, Q => ∃ v, atI xs i = some v ∧ Q (.d v) m
  | .d (.tuple xs), .d (.int i), m, Q => ∃ v, atI xs i = some v ∧ Q (.d v) m
  | .d (.str z), .d (.int i), m, Q => z.length ≤ 16777216 ∧ ∃ c, atI z.cps.toList i = some c ∧ Q (.d (.str ⟨#[c]⟩)) m
  | .r a, .d (.int i), m, Q => ∃ xs, m a = some (.lst xs) ∧ ∃ v, atI xs i = some v ∧ Q v m
  | _, _, _, _ => False
theorem o2_ix {K : PySem.W.Frag} : Op2 K (rIx K) gIx := by
  refine ⟨fun x y m Q Q' h q => ?_, fun H I0 I m x y v w Q ok s hx hy q => ?_⟩
  · unfold gIx at q ⊢
    split at q
    · obtain ⟨v, e, q⟩ := q; exact ⟨v, e, h _ _ q⟩
    · obtain ⟨v, e, q⟩ := q; exact ⟨v, e, h _ _ q⟩
    · obtain ⟨hz, v, e, q⟩ := q; exact ⟨hz, v, e, h _ _ q⟩
    · obtain ⟨xs, e1, v, e, q⟩ := q; exact ⟨xs, e1, v, e, h _ _ q⟩
    · exact q.elim
  · unfold gIx at q
    split at q
    · obtain ⟨z, e, q⟩ := q
      cases (show Dp K I v (.list _) from hx) with
      | lst sq al =>
        obtain ⟨u, h1, h2⟩ := atI_all (isAll_of al) (show atI (List.map Dv.d _) _ = some (Dv.d z) from (atI_map Dv.d _ _).trans (by rw [e]; rfl))
        exact .inl ⟨_, _, _, u, rfl, hy.int, Same.seq ok.im sq, h1, qd_same ok s h2 q⟩
    · obtain ⟨z, e, q⟩ := q
      cases (show Dp K I v (.tuple _) from hx) with
      | tup sq al =>
        obtain ⟨u, h1, h2⟩ := atI_all (isAll_of al) (show atI (List.map Dv.d _) _ = some (Dv.d z) from (atI_map Dv.d _ _).trans (by rw [e]; rfl))
        exact .inr (.inl ⟨_, _, _, u, rfl, hy.int, SqT.same ok.im sq, h1, qd_same ok s h2 q⟩)
    · obtain ⟨hz, c, e, q⟩ := q
      exact .inr (.inr ⟨_, _, c, hx.str, hy.int, by rw [sizeLine_eq]; exact hz, e, qd_same ok s (isS _) q⟩)
    · obtain ⟨xs, e1, z, e, q⟩ := q
      have hx : v = .ref _ := hx
      subst hx
      obtain ⟨vs, hv, al⟩ := ok.lst e1
      obtain ⟨u, h1, h2⟩ := atI_all al e
      exact .inl ⟨_, vs, _, u, rfl, hy.int, SqL.of hv, h1, qd_same ok s h2 q⟩
    · exact q.elim
section
variable {X : Cx} {a b e : Expr} {ta tb te : TD} {pos : Pos}
theorem de_ix (ha : DE X a ta) (hb : DE X b tb) (hs : PlainIx b := by intro _ _; rfl) : DE X (.Subscript a b pos) (dOp gIx ta tb) := lift2 (pe_ix ix_seq ha.pe hb.pe hs) ha hb o2_ix
def gSetI (v : Dv) (δ : Dn) (Q : Dn → M → Prop) : Dv → Dv → M → Prop
  | .r a, .d (.int k), m => ∃ xs, m a = some (.lst xs) ∧ ∃ j, ixN xs.length k = some j ∧ Q δ (setM m a (.lst (xs.set j v)))
  | _, _, _ => False
theorem gSetI_inv {v : Dv} {δ : Dn} {Q : Dn → M → Prop} {o i : Dv} {m : M} (h : gSetI v δ Q o i m) : ∃ a k xs j, o = .r a ∧ i = .d (.int k) ∧ m a = some (.lst xs) ∧ ixN xs.length k = some j ∧ Q δ (setM m a (.lst (xs.set j v))) := by
  unfold gSetI at h; split at h
  · obtain ⟨xs, e, j, e2, q⟩ := h; exact ⟨_, _, xs, j, rfl, rfl, e, e2, q⟩
  · exact h.elim
def dgSub (to ti : TD) : TGd := fun v δ m Q => to δ m fun o m1 => ti δ m1 fun i m2 => gSetI v δ Q o i m2
theorem dg_sub {o i : Expr} {to ti : TD} (ho : DE X o to) (hi : DE X i ti)
    (ha : ∀ v, assign (.Subscript o i pos) X.env v = (do
      let ov ← holding [v] (eval o X.env)
      let iv ← holding [v, ov] (eval i X.env)
      standAt pos
      holding [v, ov, iv] (setItem ov iv v)
      release [v, ov, iv] []) := by intro _; rfl) : DG X (.Subscript o i pos) (dgSub to ti) := by
  refine ⟨fun x δ m Q Q' h q => ho.mono δ m _ _ (fun o m1 q1 => hi.mono δ m1 _ _ (fun i m2 q2 => by
    obtain ⟨a, k, xs, j, rfl, rfl, e3, e4, q2⟩ := gSetI_inv q2
    exact ⟨xs, e3, j, e4, h _ _ q2⟩) q1) q, PG.imp (pg_sub ho.pe hi.pe set_list ha) fun v σ H Q ⟨I, δ, m, x, ok, rl, is, q⟩ => ?_⟩
  refine ⟨I, δ, m, ok, rl, ho.mono δ m _ _ (fun o m1 q1 v1 H1 I1 s1 o1 i1 => ?_) q⟩
  refine ⟨I1, δ, m1, o1, rl.same s1, hi.mono δ m1 _ _ (fun i m2 q2 v2 H2 I2 s2 o2 i2 => ?_) q1⟩
  obtain ⟨a, k, xs, j, rfl, rfl, e3, e4, q2⟩ := gSetI_inv q2
  have i1 : v1 = .ref a := i1
  subst i1
  obtain ⟨vs, hv, al⟩ := o2.lst e3
  refine ⟨a, vs, k, j, rfl, i2.int, hv, by rw [paired_len al]; exact e4, ?_⟩
  exact q2 σ _ I2 (s1.trans s2) (o2.put e3 (paired_set ((is.same s1).same s2) j al)) ((rl.same s1).same s2)
end
section
variable {X : Cx} {a b : Expr} {ta tb : TD} {pos : Pos}
def rCatL (K : PySem.W.Frag) : R2 := fun x y H Q => ∃ l b xs zs, x = .ref l ∧ y = .ref b ∧ SqL K H l xs ∧ SqL K H b zs ∧ xs.length + zs.length ≤ sizeLine ∧ ∀ p, H p = none → Q (.ref p) (upd H p (.lst (xs ++ zs)))
theorem add_list_any {prog : Program} {w : World} {A : Around} {E : Value → Shared → Prop} {s : Shared} {l b : Addr} {vs ws : List Value} {Q : Value → Shared → Prop} (hl : s.heap.IsList l vs.toArray) (hb : s.heap.IsList b ws.toArray)
    (h : Q (.ref s.heap.objs.size) { s with heap := s.heap.push { cls := .type "list", data := .seq (vs ++ ws).toArray } })
    (hsz : vs.length + ws.length ≤ sizeLine) : wpAny (model prog w) A (binaryOp .Add (.ref l) (.ref b)) Q E s := by
  obtain ⟨⟨cls, dd, data, sl⟩, ho, hc, n, hd⟩ := id hl
  obtain ⟨⟨cls2, dd2, data2, sl2⟩, ho2, hc2, n2, hd2⟩ := id hb
  simp only at hc hd hc2 hd2
  subst hc hd hc2 hd2
  have e : vs.toArray ++ ws.toArray = (vs ++ ws).toArray := by simp
  refine concat_meets ⟨_, ho, rfl⟩ ⟨_, ho2, rfl⟩ noFill_list_add seq_list_add PySem.F.slot_list_add PySem.F.entry_list_add (PySem.F.args_list_add_2 _ _) (list_addW l b vs.toArray ws.toArray n n2 dd dd2 sl sl2 (by simpa using hsz)) ⟨ho, ho2, ?_⟩
  rw [e]
  exact h
theorem op_catL : OpR X (binaryOp .Add) (rCatL X.K) := by
  intro pins s σ H x y v u Q I rx ry h
  obtain ⟨l, b, xs, zs, rfl, rfl, hH, hB, hz, q⟩ := h
  cases rx
  cases ry
  obtain ⟨its, r, pl1, z1⟩ := I.list hH
  obtain ⟨its2, r2, pl2, z2⟩ := I.list hB
  have hl := r.length
  have hl2 := r2.length
  refine add_list_any pl1.isList pl2.isList ?_ (by omega)
  exact ⟨.ref _, _, I.lnew (t' := s.toks) (r.append r2) (by rw [List.length_append]; omega), rfl, q _ I.fresh⟩
def rAddAll (K : PySem.W.Frag) : R2 := fun x y H Q => rI0 (fun i j => .int (i + j)) x y H Q ∨ (∃ i j, x = .str i ∧ y = .str j ∧ i.length + j.length ≤ sizeLine ∧ Q (.str (i ++ j)) H) ∨ rCatL K x y H Q
theorem op_addAll : OpR X (binaryOp .Add) (rAddAll X.K) := op_add.or (op_add_str.or op_catL)
def gAdd : R2D
  | .d (.int i), .d (.int j), m, Q => Q (.d (.int (i + j))) m
  | .d (.str i), .d (.str j), m, Q => i.length + j.length ≤ 16777216 ∧ Q (.d (.str (i ++ j))) m
  | .d (.list xs), .d (.list ys), m, Q => xs.length + ys.length ≤ 16777216 ∧ Q (.d (.list (xs ++ ys))) m
  | _, _, _, _ => False
theorem dpAll_app {K : PySem.W.Frag} {I : Hp} : ∀ {xs ys : List V} {ds es : List PyData}, DpAll K I xs ds → DpAll K I ys es → DpAll K I (xs ++ ys) (ds ++ es)
  | _, _, _, _, .nil, h => h
  | _, _, _, _, .cons r t, h => .cons r (dpAll_app t h)
theorem dpAll_len {K : PySem.W.Frag} {I : Hp} {xs : List V} {ds : List PyData} (h : DpAll K I xs ds) : xs.length = ds.length := by
  rw [paired_len (isAll_of h), List.length_map]
theorem qd_newL {K : PySem.W.Frag} {H I0 I : Hp} {m : M} {Q : QD} {vs : List V} {xs : List PyData} {p : Addr} (ok : Ok K H I m) (s : Same I0 I) (hp : H p = none) (al : DpAll K I vs xs) (q : Q (.d (.list xs)) m) : Qd K I0 Q (.ref p) (upd H p (.lst vs)) := by
  have fI := ok.free hp
  exact ⟨upd I p (.lst vs), .d (.list xs), m, s.trans (same_new (H := H) fI), ok.new hp, Dp.lst (SqL.of upd_same) (DpAll.same (same_new (H := H) fI) al), q⟩
theorem o2_add {K : PySem.W.Frag} : Op2 K (rAddAll K) gAdd := by
  refine ⟨fun x y m Q Q' h q => ?_, fun H I0 I m x y v w Q ok s hx hy q => ?_⟩
  · unfold gAdd at q ⊢
    split at q
    · exact h _ _ q
    · exact ⟨q.1, h _ _ q.2⟩
    · exact ⟨q.1, h _ _ q.2⟩
    · exact q.elim
  · unfold gAdd at q
    split at q
    · exact .inl ⟨_, _, hx.int, hy.int, qd_same ok s (isI _) q⟩
    · exact .inr (.inl ⟨_, _, hx.str, hy.str, by rw [sizeLine_eq]; exact q.1, qd_same ok s (isS _) q.2⟩)
    · cases (show Dp K I v (.list _) from hx) with
      | lst sq al =>
        cases (show Dp K I w (.list _) from hy) with
        | lst sq2 al2 =>
          exact .inr (.inr ⟨_, _, _, _, rfl, rfl, Same.seq ok.im sq, Same.seq ok.im sq2, by rw [sizeLine_eq, dpAll_len al, dpAll_len al2]; exact q.1, fun p hp => qd_newL ok s hp (dpAll_app al al2) q.2⟩)
    · exact q.elim
theorem de_add (ha : DE X a ta) (hb : DE X b tb) : DE X (.BinOp a .Add b pos) (dOp gAdd ta tb) := de_op op_addAll o2_add ha hb
end
def flatD : PyData → Bool
  | .none | .bool _ | .int _ | .str _ => true
  | _ => false
def inD (x : PyData) (ys : List PyData) : Bool := ys.any fun y => PyData.eqv y x
def gIn (neg : Bool) : R2D
  | .d x, .d (.list ys), m, Q => flatD x = true ∧ ys.all flatD = true ∧ Q (.d (.bool (if neg then !inD x ys else inD x ys))) m
  | .d x, .d (.tuple ys), m, Q => flatD x = true ∧ ys.all flatD = true ∧ Q (.d (.bool (if neg then !inD x ys else inD x ys))) m
  | _, _, _, _ => False
theorem flat_of {K : PySem.W.Frag} {I : Hp} {v : V} {x : PyData} (h : Dp K I v x) (f : flatD x = true) : flatV v = true := by
  cases h <;> first | rfl | cases f
theorem eqV_of {K : PySem.W.Frag} {I : Hp} {v w : V} {x y : PyData} (h : Dp K I v x) (g : Dp K I w y) (f : flatD x = true) (f2 : flatD y = true) : eqV v w = PyData.eqv x y := by
  cases h <;> cases g <;> first | rfl | cases f | cases f2
theorem flats_of {K : PySem.W.Frag} {I : Hp} : ∀ {vs : List V} {xs : List PyData}, DpAll K I vs xs → xs.all flatD = true → vs.all flatV = true
  | _, _, .nil, _ => rfl
  | _, _, .cons h t, f => by
    rw [List.all_cons, Bool.and_eq_true] at f ⊢
    exact ⟨flat_of h f.1, flats_of t f.2⟩
theorem inV_of {K : PySem.W.Frag} {I : Hp} {v : V} {x : PyData} (h : Dp K I v x) (f : flatD x = true) : ∀ {vs : List V} {xs : List PyData}, DpAll K I vs xs → xs.all flatD = true → inV v vs = inD x xs
  | _, _, .nil, _ => rfl
  | _, _, .cons g t, f2 => by
    rw [List.all_cons, Bool.and_eq_true] at f2
    show (eqV _ v || inV v _) = (PyData.eqv _ x || inD x _)
    rw [eqV_of g h f2.1 f, inV_of h f t f2.2]
theorem o2_in {K : PySem.W.Frag} {neg : Bool} : Op2 K (rIn K neg) (gIn neg) := by
  refine ⟨fun x y m Q Q' h q => ?_, fun H I0 I m x y v w Q ok s hx hy q => ?_⟩
  · unfold gIn at q ⊢
    split at q
    · exact ⟨q.1, q.2.1, h _ _ q.2.2⟩
    · exact ⟨q.1, q.2.1, h _ _ q.2.2⟩
    · exact q.elim
  · unfold gIn at q
    split at q
    · cases (show Dp K I w (.list _) from hy) with
      | lst sq al =>
        refine ⟨_, _, rfl, .inl (Same.seq ok.im sq), flat_of hx q.1, flats_of al q.2.1, ?_⟩
        rw [inV_of hx q.1 al q.2.1]
        exact qd_same ok s (isB _) q.2.2
    · cases (show Dp K I w (.tuple _) from hy) with
      | tup sq al =>
        refine ⟨_, _, rfl, .inr (SqT.same ok.im sq), flat_of hx q.1, flats_of al q.2.1, ?_⟩
        rw [inV_of hx q.1 al q.2.1]
        exact qd_same ok s (isB _) q.2.2
    · exact q.elim
section
variable {X : Cx} {a b c e : Expr} {es : List Expr} {ta tb tc : TD} {t : TAd} {pos : Pos}
theorem de_in (ha : DE X a ta) (hb : DE X b tb) (hm : behindInMarks .In b = false := by rfl) : DE X (.Compare a [.In] [b] pos) (dOp (gIn false) ta tb) := de_cmp op_in_seq o2_in ha hb hm
theorem dt_notin (ha : DE X a ta) (hb : DE X b tb) (hm : behindInMarks .NotIn b = false := by rfl) : DT X (.Compare a [.NotIn] [b] pos) (dTest (dOp (gIn true) ta tb)) := dt_cmp op_notIn_seq o2_in ha hb hm
def gLen : RAD
  | [.d (.list xs)], m, Q => Q (.d (.int xs.length)) m
  | [.d (.tuple xs)], m, Q => Q (.d (.int xs.length)) m
  | [.d (.str z)], m, Q => z.length ≤ 16777216 ∧ Q (.d (.int z.length)) m
  | [.r a], m, Q => ∃ xs, m a = some (.lst xs) ∧ Q (.d (.int xs.length)) m
  | _, _, _ => False
theorem isAll1 {K : PySem.W.Frag} {I : Hp} {vs : List V} {x : Dv} (h : IsAll K I vs [x]) : ∃ v, vs = [v] ∧ Is K I v x := by
  cases h with
  | cons r t => cases t; exact ⟨_, rfl, r⟩
theorem isAll2 {K : PySem.W.Frag} {I : Hp} {vs : List V} {x y : Dv} (h : IsAll K I vs [x, y]) : ∃ v w, vs = [v, w] ∧ Is K I v x ∧ Is K I w y := by
  cases h with
  | cons r t =>
    obtain ⟨w, rfl, h2⟩ := isAll1 t
    exact ⟨_, w, rfl, r, h2⟩
theorem oA_len {K : PySem.W.Frag} : OpA K (fun xs H Q => ∃ x n, xs = [x] ∧ LenV K x H n ∧ Q (.int (n : Nat)) H) gLen := by
  refine ⟨fun x m Q Q' h q => ?_, fun H I0 I m xs vs Q ok s hx q => ?_⟩
  · unfold gLen at q ⊢
    split at q
    · exact h _ _ q
    · exact h _ _ q
    · exact ⟨q.1, h _ _ q.2⟩
    · obtain ⟨xs, e, q⟩ := q; exact ⟨xs, e, h _ _ q⟩
    · exact q.elim
  · unfold gLen at q
    split at q
    · obtain ⟨v, rfl, hv⟩ := isAll1 hx
      cases (show Dp K I v (.list _) from hv) with
      | lst sq al => exact ⟨_, _, rfl, .inl ⟨_, Same.seq ok.im sq, rfl⟩, by rw [dpAll_len al]; exact qd_same ok s (isI _) q⟩
    · obtain ⟨v, rfl, hv⟩ := isAll1 hx
      cases (show Dp K I v (.tuple _) from hv) with
      | tup sq al => exact ⟨_, _, rfl, .inr ⟨_, SqT.same ok.im sq, rfl⟩, by rw [dpAll_len al]; exact qd_same ok s (isI _) q⟩
    · obtain ⟨v, rfl, hv⟩ := isAll1 hx
      have := hv.str
      subst this
      exact ⟨_, _, rfl, ⟨by rw [sizeLine_eq]; exact q.1, rfl⟩, qd_same ok s (isI _) q.2⟩
    · obtain ⟨v, rfl, hv⟩ := isAll1 hx
      obtain ⟨xs, e, q⟩ := q
      have hv : v = .ref _ := hv
      subst hv
      obtain ⟨ws, hw, al⟩ := ok.lst e
      exact ⟨_, _, rfl, .inl ⟨_, SqL.of hw, rfl⟩, by rw [paired_len al]; exact qd_same ok s (isI _) q⟩
    · exact q.elim
theorem de_len {p : Pos} (hg : Gl X "len") (hm : X.mg "len" = none) (ha : DA X [e] t) (he : starEach [e] X.env = [(false, eval e X.env)] := by rfl) : DE X (.Call (.Name "len" p) [e] [] pos) (dCB gLen t) :=
  de_callB call_len oA_len hg hm (by decide +kernel) ha (he := he)
def g1A (g : Int → Int) : RAD
  | [.d (.int i)], m, Q => Q (.d (.int (g i))) m
  | _, _, _ => False
def g2A (g : Int → Int → Int) : RAD
  | [.d (.int i), .d (.int j)], m, Q => Q (.d (.int (g i j))) m
  | _, _, _ => False
theorem oA_1 {K : PySem.W.Frag} {g : Int → Int} : OpA K (fun xs H Q => ∃ i, xs = [.int i] ∧ Q (.int (g i)) H) (g1A g) := by
  refine ⟨fun x m Q Q' h q => ?_, fun H I0 I m xs vs Q ok s hx q => ?_⟩
  · unfold g1A at q ⊢
    split at q
    · exact h _ _ q
    · exact q.elim
  · unfold g1A at q
    split at q
    · obtain ⟨v, rfl, hv⟩ := isAll1 hx
      exact ⟨_, by rw [hv.int], qd_same ok s (isI _) q⟩
    · exact q.elim
theorem oA_2 {K : PySem.W.Frag} {g : Int → Int → Int} : OpA K (fun xs H Q => ∃ i j, xs = [.int i, .int j] ∧ Q (.int (g i j)) H) (g2A g) := by
  refine ⟨fun x m Q Q' h q => ?_, fun H I0 I m xs vs Q ok s hx q => ?_⟩
  · unfold g2A at q ⊢
    split at q
    · exact h _ _ q
    · exact q.elim
  · unfold g2A at q
    split at q
    · obtain ⟨v, w, rfl, hv, hw⟩ := isAll2 hx
      exact ⟨_, _, by rw [hv.int, hw.int], qd_same ok s (isI _) q⟩
    · exact q.elim
def absI (i : Int) : Int := if i < 0 then -i else i
def maxI (i j : Int) : Int := if j > i then j else i
def minI (i j : Int) : Int := if j < i then j else i
theorem de_abs {p : Pos} (hg : Gl X "abs") (hm : X.mg "abs" = none) (ha : DA X [e] t) (he : starEach [e] X.env = [(false, eval e X.env)] := by rfl) : DE X (.Call (.Name "abs" p) [e] [] pos) (dCB (g1A absI) t) :=
  de_callB call_abs (oA_1 (g := absI)) hg hm (by decide +kernel) ha (he := he)
theorem de_max2 {p : Pos} (hc : X.calm = true) (hg : Gl X "max") (hm : X.mg "max" = none) (ha : DA X [a, b] t) (he : starEach [a, b] X.env = (false, eval a X.env) :: starEach [b] X.env := by rfl) (hpl : (backTo pos (starEach [b] X.env)).any (·.1) = false := by rfl) : DE X (.Call (.Name "max" p) [a, b] [] pos) (dCB (g2A maxI) t) :=
  de_callB (call_max2 hc) (oA_2 (g := maxI)) hg hm (by decide +kernel) ha (he := he) (hpl := hpl)
theorem de_min2 {p : Pos} (hc : X.calm = true) (hg : Gl X "min") (hm : X.mg "min" = none) (ha : DA X [a, b] t) (he : starEach [a, b] X.env = (false, eval a X.env) :: starEach [b] X.env := by rfl) (hpl : (backTo pos (starEach [b] X.env)).any (·.1) = false := by rfl) : DE X (.Call (.Name "min" p) [a, b] [] pos) (dCB (g2A minI) t) :=
  de_callB (call_min2 hc) (oA_2 (g := minI)) hg hm (by decide +kernel) ha (he := he) (hpl := hpl)
def gInt : RAD
  | [.d (.int i)], m, Q => Q (.d (.int i)) m
  | [.d (.bool k)], m, Q => Q (.d (.int (if k then 1 else 0))) m
  | _, _, _ => False
theorem oA_int {K : PySem.W.Frag} : OpA K (fun xs H Q => (∃ i, xs = [.int i] ∧ Q (.int i) H) ∨ ∃ k, xs = [.bl k] ∧ Q (.int (if k then 1 else 0)) H) gInt := by
  refine ⟨fun x m Q Q' h q => ?_, fun H I0 I m xs vs Q ok s hx q => ?_⟩
  · unfold gInt at q ⊢
    split at q
    · exact h _ _ q
    · exact h _ _ q
    · exact q.elim
  · unfold gInt at q
    split at q
    · obtain ⟨v, rfl, hv⟩ := isAll1 hx
      exact .inl ⟨_, by rw [hv.int], qd_same ok s (isI _) q⟩
    · obtain ⟨v, rfl, hv⟩ := isAll1 hx
      exact .inr ⟨_, by rw [hv.bl], qd_same ok s (isI _) q⟩
    · exact q.elim
theorem de_intc {p : Pos} (hg : Gl X "int") (hm : X.mg "int" = none) (ha : DA X [e] t) (he : starEach [e] X.env = [(false, eval e X.env)] := by rfl) : DE X (.Call (.Name "int" p) [e] [] pos) (dCB gInt t) :=
  de_callTy call_int1 oA_int hg hm (by decide +kernel) ha (he := he)
def gSum : RAD
  | [.d (.list xs)], m, Q => ∃ ns : List Int, xs = ns.map .int ∧ Q (.d (.int ns.sum)) m
  | _, _, _ => False
theorem ints_of {K : PySem.W.Frag} {I : Hp} : ∀ {vs : List V} {ns : List Int}, DpAll K I vs (ns.map .int) → vs = ns.map V.int
  | _, [], h => by cases h; rfl
  | _, n :: ns, h => by
    cases h with
    | cons r t => cases r; rw [ints_of t]; rfl
theorem oA_sum {K : PySem.W.Frag} : OpA K (rSum K) gSum := by
  refine ⟨fun x m Q Q' h q => ?_, fun H I0 I m xs vs Q ok s hx q => ?_⟩
  · unfold gSum at q ⊢
    split at q
    · obtain ⟨ns, e, q⟩ := q; exact ⟨ns, e, h _ _ q⟩
    · exact q.elim
  · unfold gSum at q
    split at q
    · obtain ⟨v, rfl, hv⟩ := isAll1 hx
      obtain ⟨ns, rfl, q⟩ := q
      cases (show Dp K I v (.list _) from hv) with
      | lst sq al =>
        have e := ints_of al
        subst e
        exact ⟨_, ns, rfl, Same.seq ok.im sq, qd_same ok s (isI _) q⟩
    · exact q.elim
theorem de_sum {p : Pos} (hc : X.calm = true) (hg : Gl X "sum") (hm : X.mg "sum" = none) (ha : DA X [e] t) (he : starEach [e] X.env = [(false, eval e X.env)] := by rfl) : DE X (.Call (.Name "sum" p) [e] [] pos) (dCB gSum t) :=
  de_callB (cr_sum hc) oA_sum hg hm (by decide +kernel) ha (he := he)
def gTuple : RAD
  | [.d (.list xs)], m, Q => Q (.d (.tuple xs)) m
  | [.d (.tuple xs)], m, Q => Q (.d (.tuple xs)) m
  | _, _, _ => False
end
end DL
namespace DL
open PySem PySem.Spec PyProof.Rows L2
section
variable {X : Cx} {elt iter : Expr} {ifs : List Expr} {scope : Scope} {pos ppos px py : Pos} {w : TId} {tt : TBd} {te : TD} {x y : Str} {i j kk : Nat}
def dgPair (i j : Nat) : TGd
  | .d (.tuple [a, b]), δ, m, Q => Q ((δ.set i (some (.d a))).set j (some (.d b))) m
  | _, _, _, _ => False
end
section
variable {X : Cx} {a b c : Expr} {ta tb tc : TD} {pos : Pos}
end
section
variable {X : Cx} {e : Expr} {te : TD} {pos p2 : Pos} {lo hi : Option Expr}
abbrev TOd := Dn → M → (Option Int → M → Prop) → Prop
structure DO (X : Cx) (e : Option Expr) (t : TOd) : Prop where
  mono : Mo t
  po : PO X e (fun σ H Q => ∃ I δ m, Ok X.K H I m ∧ Rl X.K I σ δ ∧ t δ m (fun i m' => ∀ H' I', Same I I' → Ok X.K H' I' m' → Q i H'))
def dNoPart : TOd := fun _ m Q => Q none m
def dPart (t : TD) : TOd := fun δ m Q => t δ m fun x m1 => ∃ i, x = .d (.int i) ∧ Q (some i) m1
theorem PO.imp {e : Option Expr} {t t' : TO} (h : PO X e t) (i : ∀ σ H Q, t' σ H Q → t σ H Q) : PO X e t' := fun pins s σ H Q I q => h pins s σ H Q I (i σ H Q q)
theorem do_none : DO X none dNoPart := ⟨fun _ _ _ _ h q => h _ _ q, PO.imp po_none fun σ H Q ⟨I, δ, m, ok, rl, q⟩ => q H I (Same.refl _) ok⟩
theorem do_some {e : Expr} {t : TD} (h : DE X e t) : DO X (some e) (dPart t) := by
  refine ⟨fun δ m Q Q' hq q => h.mono δ m _ _ (fun x m1 ⟨i, e, z⟩ => ⟨i, e, hq _ _ z⟩) q, PO.imp (po_some h.pe) fun σ H Q ⟨I, δ, m, ok, rl, q⟩ => ?_⟩
  exact ⟨I, δ, m, ok, rl, h.mono δ m _ _ (fun x m1 ⟨i, e, z⟩ v H1 I1 s1 o1 i1 => ⟨i, by subst e; exact i1.int, z H1 I1 s1 o1⟩) q⟩
def cutD (xs : List PyData) (lo hi : Option Int) : List PyData := (xs.drop (HT.sIx xs.length 0 lo)).take (HT.sIx xs.length xs.length hi - HT.sIx xs.length 0 lo)
theorem dpAll_drop {K : PySem.W.Frag} {I : Hp} : ∀ {vs : List V} {xs : List PyData} (n : Nat), DpAll K I vs xs → DpAll K I (vs.drop n) (xs.drop n)
  | _, _, 0, h => h
  | _, _, n + 1, .nil => .nil
  | _, _, n + 1, .cons r t => dpAll_drop n t
theorem dpAll_take {K : PySem.W.Frag} {I : Hp} : ∀ {vs : List V} {xs : List PyData} (n : Nat), DpAll K I vs xs → DpAll K I (vs.take n) (xs.take n)
  | _, _, 0, h => .nil
  | _, _, n + 1, .nil => .nil
  | _, _, n + 1, .cons r t => .cons r (dpAll_take n t)
def dSl (te : TD) (tl th : TOd) : TD := fun δ m Q => te δ m fun x m1 => tl δ m1 fun l m2 => th δ m2 fun u m3 => (match x with
  | .d (.list xs) => Q (.d (.list (cutD xs l u))) m3
  | .d (.str z) => z.length ≤ 16777216 ∧ Q (.d (.str (cutS z l u))) m3
  | _ => False : Prop)
theorem mo_dSl {tl th : TOd} (h1 : Mo te) (h2 : Mo tl) (h3 : Mo th) : Mo (dSl te tl th) := fun δ m Q Q' hq q =>
  h1 δ m _ _ (fun x m1 q1 => h2 δ m1 _ _ (fun l m2 q2 => h3 δ m2 _ _ (fun u m3 q3 => by
    split at q3
    · exact hq _ _ q3
    · exact ⟨q3.1, hq _ _ q3.2⟩
    · exact q3.elim) q2) q1) q
def rSlB (K : PySem.W.Frag) : V → Option Int → Option Int → Hp → VK → Prop := fun x lo hi H Q => rSlL K x lo hi H Q ∨ rSlS x lo hi H Q
theorem sl_both : SlR X (rSlB X.K) := by
  intro pins s σ H x v vl vu lo hi sl Q I rx hs pl pu h
  rcases h with h | h
  · exact sl_list pins s σ H x v vl vu lo hi sl Q I rx hs pl pu h
  · exact sl_str pins s σ H x v vl vu lo hi sl Q I rx hs pl pu h
theorem de_slice {tl th : TOd} (he : DE X e te) (hl : DO X lo tl) (hu : DO X hi th) : DE X (.Subscript e (.Slice lo hi none p2) pos) (dSl te tl th) := by
  refine de_of (pe_slice sl_both he.pe hl.po hu.po) (mo_dSl he.mono hl.mono hu.mono) fun σ H I δ m Q ok rl q => ?_
  refine ⟨I, δ, m, ok, rl, he.mono δ m _ _ (fun x m1 q1 v1 H1 I1 s1 o1 i1 => ?_) q⟩
  refine ⟨I1, δ, m1, o1, rl.same s1, hl.mono δ m1 _ _ (fun l m2 q2 H2 I2 s2 o2 => ?_) q1⟩
  refine ⟨I2, δ, m2, o2, (rl.same s1).same s2, hu.mono δ m2 _ _ (fun u m3 q3 H3 I3 s3 o3 => ?_) q2⟩
  split at q3
  · cases (show Dp X.K I1 v1 (.list _) from i1) with
    | lst sq al =>
      have al3 := DpAll.same (s2.trans s3) al
      refine .inl ⟨_, _, rfl, Same.seq ((s2.trans s3).trans o3.im) sq, fun p hp => qd_newL o3 ((s1.trans s2).trans s3) hp ?_ q3⟩
      unfold cutV cutD
      rw [dpAll_len al]
      exact dpAll_take _ (dpAll_drop _ al3)
  · have := i1.str
    subst this
    exact .inr ⟨_, rfl, by rw [sizeLine_eq]; exact q3.1, qd_same o3 ((s1.trans s2).trans s3) (isS _) q3.2⟩
  · exact q3.elim
end
end DL
namespace DL
open PySem PySem.Spec PyProof.Rows L2
theorem forIn_up {M : Model} {A : Around} {E : Value → Shared → Prop} {β : Type} (f : Nat → β → Sem (ForInStep β)) (J : Nat → β → Shared → Prop) (Q : β → Shared → Prop) :
    ∀ (k i : Nat) (b : β) (s : Shared), J i b s → (∀ n b s, n < i + k → J n b s → wpAny M A (f n b) (fun r s' => match r with | .yield b' => J (n + 1) b' s' | .done b' => Q b' s') E s) → (∀ b s, J (i + k) b s → Q b s) →
      wpAny M A (forIn (List.range' i k) b f) Q E s
  | 0, i, b, s, h, _, hd => by
    simp only [List.range'_zero, List.forIn_nil]
    exact wpAny_pure (hd b s h)
  | k + 1, i, b, s, h, ht, hd => by
    rw [List.range'_succ, List.forIn_cons]
    refine wpAny_bind (wpAny_mono (ht i b s (by omega) h) (fun r s' hr => ?_) fun _ _ x => x)
    cases r with
    | done b' => exact wpAny_pure hr
    | yield b' => exact forIn_up f J Q k (i + 1) b' s' hr (fun n b s hn => ht n b s (by omega)) (fun b s hj => hd b s (by rw [show i + (k + 1) = i + 1 + k by omega]; exact hj))
theorem tuple_indexAt (l : Addr) (items : Array Value) (x : Value) (n : Nat) (dd : Option Addr) (sl : Array (Option Value)) (e : Value → Bool) (j : Nat) (hj : j < items.size) (hit : e items[j] = true) (hno : ∀ m (hm : m < items.size), m < j → e items[m] = false) :
    Meets (Builtin.«tuple.index» ⟨[.ref l, x], []⟩)
      (fun A R s => s.heap.get? l = some { cls := .type "tuple", dict := dd, data := .seq items n, slots := sl } ∧ (∀ y, y ∈ items → SeqAt.EqAt A.in1 s y x (e y)) ∧ R (.ok (.ret (.int j s.toks))) { s with toks := s.toks + 1 }) := by
  intro prog w A R s h
  obtain ⟨hp, g, d, tk, os⟩ := s; obtain ⟨hl, he, h⟩ := h
  unfold Builtin.«tuple.index»
  simp only [Std.Legacy.Range.forIn_eq_forIn_range']
  wp_walk using wpAny_loadPart' hl, forIn_up _ (fun i b s' => b.1 = none ∧ i ≤ j ∧ s' = ⟨hp, g, d, tk, os⟩) _ _ _ _ _
  · exact ⟨rfl, Nat.zero_le _, rfl⟩
  · rintro k b s' hk ⟨hb, hkj, rfl⟩
    have hk2 : k < items.size := by omega
    have e1 : items[k]? = some items[k] := by simp [hk2]
    simp only [e1]
    refine wpAny_bind (he items[k] (Array.getElem_mem hk2) prog w _ _ ?_)
    by_cases hj2 : k = j
    · subst hj2
      rw [hit]
      wp_walk
      exact h
    · rw [hno k hk2 (by omega)]
      wp_walk
      exact ⟨rfl, by omega, rfl⟩
  · rintro b s' ⟨hb, hkj, rfl⟩
    exfalso
    simp at hkj
    omega
section
variable {X : Cx} {a b c o e : Expr} {es : List Expr} {ta tb tc to te : TD} {t : TAd} {pos apos : Pos}
def rIndexT (K : PySem.W.Frag) : V → List V → Hp → VK → Prop := fun x xs H Q => ∃ (a : Addr) (ys : List V) (y : V) (j : Nat) (z : V), x = V.ref a ∧ xs = [y] ∧ SqT K H a ys ∧ flatV y = true ∧ ys.all flatV = true ∧ ys[j]? = some z ∧ eqV z y = true ∧
  (∀ (m : Nat) (z' : V), m < j → ys[m]? = some z' → eqV z' y = false) ∧ Q (.int (j : Nat)) H
theorem mt_indexT : MtR X "tuple.index" (rIndexT X.K) := by
  intro pins s σ H x xs v us Q I rx rxs h
  obtain ⟨a, ys, y, j, z, rfl, rfl, hs, fy, fys, hz, hzj, hno, q⟩ := h
  cases rx
  cases rxs with
  | cons ry rt =>
    rename_i uy ut
    cases rt
    obtain ⟨its, rv, ⟨⟨cls, dd, data, sl⟩, ho, hc, n, hd⟩, hlen⟩ := I.tuple hs
    simp only at hc hd
    subst hc hd
    obtain ⟨u, hu, ru⟩ := rv.get hz
    obtain ⟨hjl, hje⟩ := List.getElem?_eq_some_iff.mp hu
    have hvl := rv.length
    have hj : j < its.toArray.size := by simpa using hjl
    refine call_meets PySem.F.slot_tuple_index ⟨_, ho, rfl⟩ PySem.F.entry_tuple_index (PySem.F.args_tuple_index_2 _ _)
      (tuple_indexAt a its.toArray uy n dd sl (eqU y) j hj ?_ ?_) ⟨ho, fun u' hu' => mem_eqAt ry fy rv fys u' (by simpa using hu'), ?_⟩
    · have e1 : its.toArray[j] = u := by simpa using hje
      rw [e1, eqU_of ru (flat_at fys hz)]
      exact hzj
    · intro m hm hmj
      have hml : m < its.length := by simpa using hm
      have hmy : m < ys.length := by omega
      have hy' : ys[m]? = some ys[m] := List.getElem?_eq_getElem hmy
      obtain ⟨u2, hu2, ru2⟩ := rv.get hy'
      obtain ⟨_, hme⟩ := List.getElem?_eq_some_iff.mp hu2
      have e1 : its.toArray[m] = u2 := by simpa using hme
      rw [e1, eqU_of ru2 (flat_at fys hy')]
      exact hno m _ hmj hy'
    · exact ⟨.int (j : Nat), H, I.tok _, ⟨_, rfl⟩, q⟩
def idxD (x : PyData) : List PyData → Option Nat
  | [] => none
  | y :: ys => if PyData.eqv y x = true then some 0 else (idxD x ys).map (· + 1)
theorem idxD_spec {x : PyData} : ∀ {ys : List PyData} {j : Nat}, idxD x ys = some j → (∃ z, ys[j]? = some z ∧ PyData.eqv z x = true) ∧ ∀ m z', m < j → ys[m]? = some z' → PyData.eqv z' x = false
  | [], j, h => by cases h
  | y :: ys, j, h => by
    unfold idxD at h
    by_cases e : PyData.eqv y x = true
    · rw [if_pos e] at h; cases h
      exact ⟨⟨y, rfl, e⟩, fun m z' hm => absurd hm (Nat.not_lt_zero _)⟩
    · rw [if_neg e] at h
      cases q : idxD x ys with
      | none => rw [q] at h; cases h
      | some k =>
        rw [q] at h; cases h
        obtain ⟨⟨z, h1, h2⟩, h3⟩ := idxD_spec q
        refine ⟨⟨z, by simpa using h1, h2⟩, fun m z' hm hz => ?_⟩
        cases m with
        | zero => simp at hz; subst hz; simpa using e
        | succ m => exact h3 m z' (by have : m + 1 < k + 1 := hm; omega) (by simpa using hz)
def dIndexT (ys : List PyData) (te : TD) : TD := fun δ m Q => te δ m fun x m1 => (match x with
  | .d y => flatD y = true ∧ ∃ j : Nat, idxD y ys = some j ∧ Q (.d (.int j)) m1
  | _ => False : Prop)
theorem de_indexT {x : Str} {p : Pos} {f : Addr} {ob : Obj} {vs : List V} {ys : List PyData} (hg : Gl X x) (hm : X.mg x = some (.ref f)) (hk : X.K.lookup f = some ob) (hc : ob.cls = .type "tuple") (hd : ob.dict = none) (hv : ∀ I, SqT X.K I f vs) (hy : ∀ I, DpAll X.K I vs ys) (hf : ys.all flatD = true) (he : DE X e te)
    (hdb : (x == ("__debug__" : Str)) = false := by decide)
    (hbase : attributeBase (.Name x p) "index" X.env (eval (.Name x p) X.env) = eval (.Name x p) X.env := by rfl)
    (hfew : ((backTo pos (starEach [e] X.env)).all (fun x => !x.1) && (backToKw pos (keywordEach [] X.env)).all (fun x => x.1.isSome)
      && decide (([e] : List Expr).length + ([] : List Keyword).length + (if ([] : List Keyword).isEmpty then 0 else 1) < 30)) = true := by rfl)
    (hline : (apos.endLine == pos.line) = true := by rfl) (hs : starEach [e] X.env = (false, eval e X.env) :: starEach [] X.env := by rfl) (hplain : (backTo pos (starEach [] X.env)).any (·.1) = false := by rfl) :
    DE X (.Call (.Attribute (.Name x p) "index" apos) [e] [] pos) (dIndexT ys te) := by
  have mo : Mo (dIndexT ys te) := fun δ m Q Q' hq q => he.mono δ m _ _ (fun x m1 z => by
    split at z
    · obtain ⟨f, j, e, z⟩ := z; exact ⟨f, j, e, hq _ _ z⟩
    · exact z.elim) q
  refine de_of (pe_bm (hbase := hbase) (hfew := hfew) (hline := hline) (hs := hs) (hplain := hplain) PySem.F.plainAttrs_tuple PySem.F.slot_tuple_index PySem.F.type_tuple_index mt_indexT (pe_glob (v := .ref f) hg hm rfl hdb) (pa_cons he.pe pa_nil hs)) mo fun σ H I δ m Q ok rl q => ?_
  refine ⟨.inr (.inl ⟨rfl, ob, hk, hc, hd⟩), I, δ, m, ok, rl, he.mono δ m _ _ (fun x m1 q1 v1 H1 I1 s1 o1 i1 => ?_) q⟩
  split at q1
  · obtain ⟨fx, j, ej, q1⟩ := q1
    obtain ⟨⟨z, h1, h2⟩, h3⟩ := idxD_spec ej
    have al := hy I1
    have z1 : (ys.map Dv.d)[j]? = some (.d z) := by rw [List.getElem?_map, h1]; rfl
    obtain ⟨w, hw, iw⟩ := paired_get (isAll_of al) z1
    have fz : ∀ (m : Nat) z, ys[m]? = some z → flatD z = true := fun m z h => List.all_eq_true.mp hf z (List.mem_of_getElem? h)
    refine ⟨f, vs, v1, j, w, rfl, rfl, hv H1, flat_of i1 fx, flats_of al hf, hw, ?_, fun m w' hm hw' => ?_, qd_same o1 s1 (isI _) q1⟩
    · rw [eqV_of iw i1 (fz j z h1) fx]; exact h2
    · have hb : m < ys.length := by
        have := (List.getElem?_eq_some_iff.mp hw').1
        rw [dpAll_len al] at this; exact this
      have z2 : (ys.map Dv.d)[m]? = some (.d ys[m]) := by rw [List.getElem?_map, List.getElem?_eq_getElem hb]; rfl
      obtain ⟨w2, hw2, iw2⟩ := paired_get (isAll_of al) z2
      rw [hw'] at hw2; cases hw2
      rw [eqV_of iw2 i1 (fz m _ (List.getElem?_eq_getElem hb)) fx]
      exact h3 m _ hm (List.getElem?_eq_getElem hb)
  · exact q1.elim
theorem mt_bits : MtR X "int.bit_length" (fun x xs H Q => ∃ i, x = .int i ∧ xs = [] ∧ Q (.int (Builtin.Int.intBits i)) H) := by
  intro pins s σ H x xs v us Q I rx rxs h
  obtain ⟨i, rfl, rfl, q⟩ := h
  obtain ⟨t, rfl⟩ := rx
  cases rxs
  exact call_int_bit_length ⟨.int _, H, I.tok _, ⟨_, rfl⟩, q⟩
theorem de_bits (ho : DE X o to) (hbase : attributeBase o "bit_length" X.env (eval o X.env) = eval o X.env := by rfl) (hline : (apos.endLine == pos.line) = true := by rfl) :
    DE X (.Call (.Attribute o "bit_length" apos) [] [] pos) (dUn (g1I fun i => (Builtin.Int.intBits i : Int)) to) := by
  refine de_of (pe_bm0 (hbase := hbase) (hline := hline) PySem.F.plainAttrs_int PySem.F.slot_int_bit_length PySem.F.type_int_bit_length mt_bits ho.pe) (mo_dUn (o1_I (K := X.K)).mono ho.mono) fun σ H I δ m Q ok rl q => ?_
  refine ⟨I, δ, m, ok, rl, ho.mono δ m _ _ (fun x m1 q1 v1 H1 I1 s1 o1 i1 => ?_) q⟩
  obtain ⟨i, rfl, q1⟩ := g1I_inv q1
  have := i1.int
  subst this
  exact ⟨rfl, i, rfl, rfl, qd_same o1 s1 (isI _) q1⟩
section
variable {prog : Program} {w : World} {A : Around} {E : Value → Shared → Prop} {s : Shared} {l : Addr} {its : List Value} {ns : List Int} {Q : Value → Shared → Prop}
end
def intsD : List PyData → Option (List Int)
  | [] => some []
  | .int i :: r => (intsD r).map (i :: ·)
  | _ :: _ => none
def gBest (f : List Int → Int) : RAD
  | [.d (.list xs)], m, Q => ∃ ns, intsD xs = some ns ∧ 0 < ns.length ∧ Q (.d (.int (f ns))) m
  | [.d (.tuple xs)], m, Q => ∃ ns, intsD xs = some ns ∧ 0 < ns.length ∧ Q (.d (.int (f ns))) m
  | _, _, _ => False
end
end DL
namespace DL
open PySem PySem.Spec PyProof.Rows L2
section
variable {X : Cx} {a b c o e : Expr} {es : List Expr} {ta tb tc to te : TD} {t : TAd} {pos apos : Pos}
def gAppend : Dv → Dv → M → QD → Prop
  | .r a, v, m, Q => ∃ xs, m a = some (.lst xs) ∧ xs.length < 16777216 ∧ Q (.d .none) (setM m a (.lst (xs ++ [v])))
  | _, _, _, _ => False
def dAppend (to te : TD) : TD := fun δ m Q => to δ m fun x m1 => (∃ a xs, x = .r a ∧ m1 a = some (.lst xs)) ∧ te δ m1 fun v m2 => gAppend x v m2 Q
def g2B (f : Bool → Bool → Bool) : R2D
  | .d (.bool b), .d (.bool c), m, Q => Q (.d (.bool (f b c))) m
  | _, _, _, _ => False
def g1N (neg : Bool) : R2D
  | .d x, .d .none, m, Q => Q (.d (.bool (match x with | .none => !neg | _ => neg))) m
  | .r _, .d .none, m, Q => Q (.d (.bool neg)) m
  | _, _, _, _ => False
theorem lift_m1 {id : String} {name : Str} {r : V → List V → Hp → VK → Prop} {rd : R2D} (slot : Slot "str" name id) (ty : typeOf (.builtin id) = pure (.type "method_descriptor")) (rule : MtR X id r)
    (mo2 : Mo2 rd) (rdS : ∀ x y m Q, rd x y m Q → ∃ s, x = .d (.str s)) (ok2 : ∀ H I0 I m x y v w Q, Ok X.K H I m → Same I0 I → Is X.K I v x → Is X.K I w y → rd x y m Q → r v [w] H (Qd X.K I0 Q)) (ho : DE X o to) (he : DE X e te)
    (hs : starEach [e] X.env = [(false, eval e X.env)] := by rfl) (hbase : attributeBase o name X.env (eval o X.env) = eval o X.env := by rfl) (hline : (apos.endLine == pos.line) = true := by rfl) :
    DE X (.Call (.Attribute o name apos) [e] [] pos) (fun δ m Q => to δ m fun x m1 => (∃ s, x = .d (.str s)) ∧ te δ m1 fun y m2 => rd x y m2 Q) := by
  refine de_of (pe_m1 slot ty rule ho.pe he.pe hs hbase hline) (fun δ m Q Q' hq q => ho.mono δ m _ _ (fun x m1 ⟨z, q1⟩ => ⟨z, he.mono δ m1 _ _ (fun y m2 q2 => mo2 x y m2 Q Q' hq q2) q1⟩) q) fun σ H I δ m Q ok rl q => ?_
  refine ⟨I, δ, m, ok, rl, ho.mono δ m _ _ (fun x m1 ⟨⟨s, ex⟩, q1⟩ v1 H1 I1 s1 o1 i1 => ?_) q⟩
  subst ex
  refine ⟨⟨s, i1.str⟩, I1, δ, m1, o1, rl.same s1, he.mono δ m1 _ _ (fun y m2 q2 v2 H2 I2 s2 o2 i2 => ?_) q1⟩
  exact ok2 H2 I I2 m2 _ y v1 v2 Q o2 (s1.trans s2) (i1.same s2) i2 q2
def dM1 (rd : R2D) (to te : TD) : TD := fun δ m Q => to δ m fun x m1 => (∃ s, x = .d (.str s)) ∧ te δ m1 fun y m2 => rd x y m2 Q
end
def tyD : PyData → String
  | .none => "NoneType" | .bool _ => "bool" | .int _ => "int" | .str _ => "str" | .list _ => "list" | .tuple _ => "tuple" | .dict _ => "dict"
section
variable {X : Cx} {a b c o e : Expr} {ta te : TD} {pos apos p p2 : Pos}
def dIsi (yes : String → Bool) (te : TD) : TD := fun δ m Q => te δ m fun x m1 => (match x with
  | .d d => Q (.d (.bool (yes (tyD d)))) m1
  | .r _ => False : Prop)
end
end DL
namespace DL
open PySem PySem.Spec PyProof.Rows L2
def SqIt (tu : Bool) (h : Heap) (i l : Addr) (k : Nat) : Prop := if tu = true then h.IsTupleIter i l k else h.IsListIter i l k
def SqAt (tu : Bool) (h : Heap) (l : Addr) (xs : Array Value) : Prop := if tu = true then h.IsTuple l xs else h.IsList l xs
def itTy (tu : Bool) : String := if tu = true then "tuple_iterator" else "list_iterator"
theorem SqIt.obj {tu : Bool} {h : Heap} {i l : Addr} {k : Nat} (x : SqIt tu h i l k) : ∃ o, h.get? i = some o ∧ o.data = .fields #[.ref l, .int k 0] := by
  cases tu with
  | true => obtain ⟨o, ho, _, d⟩ := x; exact ⟨o, ho, d⟩
  | false => obtain ⟨o, ho, _, d⟩ := x; exact ⟨o, ho, d⟩
theorem SqIt.to {tu : Bool} {h h' : Heap} {i l : Addr} {k : Nat} (x : SqIt tu h i l k) (e : ∀ o, h.get? i = some o → h'.get? i = some o) : SqIt tu h' i l k := by
  cases tu with
  | true => obtain ⟨o, ho, r⟩ := x; exact ⟨o, e o ho, r⟩
  | false => obtain ⟨o, ho, r⟩ := x; exact ⟨o, e o ho, r⟩
theorem SqAt.to {tu : Bool} {h h' : Heap} {l : Addr} {xs : Array Value} (x : SqAt tu h l xs) (e : ∀ o, h.get? l = some o → h'.get? l = some o) : SqAt tu h' l xs := by
  cases tu with
  | true => obtain ⟨o, ho, r⟩ := x; exact ⟨o, e o ho, r⟩
  | false => obtain ⟨o, ho, r⟩ := x; exact ⟨o, e o ho, r⟩
theorem SqAt.lt {tu : Bool} {h : Heap} {l : Addr} {xs : Array Value} (x : SqAt tu h l xs) : l < h.objs.size := by
  cases tu with
  | true => obtain ⟨o, ho, r⟩ := x; exact Heap.lt_size ho
  | false => obtain ⟨o, ho, r⟩ := x; exact Heap.lt_size ho
theorem SqIt.new {tu : Bool} {h : Heap} {l : Addr} : SqIt tu (h.push { cls := .type (itTy tu), data := .fields #[.ref l, .int 0 0] }) h.objs.size l 0 := by
  cases tu with
  | true => exact ⟨_, Heap.get?_push_size _ rfl, rfl, rfl⟩
  | false => exact ⟨_, Heap.get?_push_size _ rfl, rfl, rfl⟩
section
variable {prog : Program} {w : World} {A : Around} {E : Value → Shared → Prop} {s : Shared}
theorem sq_iter {tu : Bool} {l : Addr} {xs} {Q : Value → Shared → Prop} (hl : SqAt tu s.heap l xs)
    (hQ : Q (.ref s.heap.objs.size) { s with heap := s.heap.push { cls := .type (itTy tu), data := .fields #[.ref l, .int 0 0] } }) : wpAny (model prog w) A (pyIter (.ref l)) Q E s := by
  cases tu with
  | true => exact wpAny_pyIter_tuple hl hQ
  | false => exact wpAny_pyIter_list hl hQ
theorem nextT_item {it t : Addr} {i : Nat} {items : Array Value} {x : Value} {Q : Value → Shared → Prop} (hit : s.heap.IsTupleIter it t i) (ht : s.heap.IsTuple t items) (hx : items[i]? = some x)
    (hQ : ∀ h', h'.IsTupleIter it t (i + 1) → Heap.SameBut it s.heap h' → Q x { s with heap := h' }) : wpAny (model prog w) A (Builtin.SmallTypes.nextOf (.ref it)) Q E s := by
  obtain ⟨o, ho, hc, hd⟩ := id hit
  obtain ⟨ol, hol, _, nl, hdl⟩ := ht
  unfold Builtin.SmallTypes.nextOf
  refine wpAny_bind (wpAny_callSpecial?_slot (name := Str.ofString "__next__") hit.typeIs F.slot_tuple_iterator_next (wpAny_call_entry F.slot_tuple_iterator_next hit.typeIs F.entry_tuple_iterator_next ?_ (F.args_tuple_iterator_next_1 _)))
  show wpAny _ _ (field (.ref it) 0 >>= _) _ _ s
  refine wpAny_bind (wpAny_field ho hd (x := .ref t) rfl ?_)
  show wpAny _ _ (if (Value.ref t == Value.none) = true then _ else _) _ _ s
  rw [if_neg (show ¬ ((Value.ref t == Value.none) = true) from Bool.false_ne_true)]
  show wpAny _ _ (field (.ref it) 1 >>= _) _ _ s
  refine wpAny_bind (wpAny_field ho hd (x := .int i 0) rfl ?_)
  show wpAny _ _ (seqItems? (.ref t) >>= _) _ _ s
  refine wpAny_bind (wpAny_seqItems hol hdl ?_)
  simp only [Int.toNat_natCast, hx]
  refine wpAny_bind (wpAny_setField ho hd (by simp) (wpAny_pure ⟨x, rfl, wpAny_pure (hQ _ ?_ (Heap.SameBut.update ..))⟩))
  exact ⟨_, Heap.get?_update_self _ ho (Obj.isFreed_of_fields (Obj.data_mapFields hd _)), (Obj.cls_mapFields ..).trans hc, by rw [Obj.data_mapFields hd]; simp [rawInt]⟩
theorem nextT_end {it t : Addr} {i : Nat} {items : Array Value} {Q : Value → Shared → Prop} (hh : A.handled = none) (hit : s.heap.IsTupleIter it t i) (ht : s.heap.IsTuple t items) (hx : items[i]? = none)
    (hE : ∀ h' e, Heap.ExtBut it s.heap h' → (∃ o, h'.get? e = some o ∧ o.cls = .type "StopIteration") → E (.ref e) { s with heap := h' }) : wpAny (model prog w) A (Builtin.SmallTypes.nextOf (.ref it)) Q E s := by
  obtain ⟨o, ho, hc, hd⟩ := id hit
  obtain ⟨ol, hol, _, nl, hdl⟩ := ht
  unfold Builtin.SmallTypes.nextOf
  refine wpAny_bind (wpAny_callSpecial?_slot (name := Str.ofString "__next__") hit.typeIs F.slot_tuple_iterator_next (wpAny_call_entry F.slot_tuple_iterator_next hit.typeIs F.entry_tuple_iterator_next ?_ (F.args_tuple_iterator_next_1 _)))
  show wpAny _ _ (field (.ref it) 0 >>= _) _ _ s
  refine wpAny_bind (wpAny_field ho hd (x := .ref t) rfl ?_)
  show wpAny _ _ (if (Value.ref t == Value.none) = true then _ else _) _ _ s
  rw [if_neg (show ¬ ((Value.ref t == Value.none) = true) from Bool.false_ne_true)]
  show wpAny _ _ (field (.ref it) 1 >>= _) _ _ s
  refine wpAny_bind (wpAny_field ho hd (x := .int i 0) rfl ?_)
  show wpAny _ _ (seqItems? (.ref t) >>= _) _ _ s
  refine wpAny_bind (wpAny_seqItems hol hdl ?_)
  simp only [Int.toNat_natCast, hx]
  refine wpAny_bind (wpAny_rule (wpAny_bind (wpAny_setField ho hd (by simp) ?_)))
  show wpAny _ _ (newExc (.type "StopIteration") [] >>= _) _ _ _
  refine wpAny_bind ?_
  simp only [newExc, newTuple]
  refine wpAny_bind (wpAny_newObj_type ?_ (by size_fits))
  refine wpAny_bind (m := firstArgMember _ _) (wpAny_of_eq (a := Value.none) (by first | rfl | (simp only [firstArgMember]; rfl)) ?_)
  refine wpAny_newObj_type ?_ (by size_fits)
  simp only [raiseNew]
  refine wpAny_bind (wpAny_handled ?_)
  first | rw [show A.in1.handled = none from hh] | rw [hh]
  refine wpAny_bind (wpAny_pure (wpAny_throw ?_))
  exact hE _ _ (((Heap.SameBut.update ..).extBut.push _).push _) ⟨_, Heap.get?_push_size _ rfl, rfl⟩
theorem sq_next {tu : Bool} {it l : Addr} {i : Nat} {xs : Array Value} {x : Value} {Q : Value → Shared → Prop} (hit : SqIt tu s.heap it l i) (hl : SqAt tu s.heap l xs) (hx : xs[i]? = some x)
    (hQ : ∀ h', SqIt tu h' it l (i + 1) → Heap.SameBut it s.heap h' → Q x { s with heap := h' }) : wpAny (model prog w) A (Builtin.SmallTypes.nextOf (.ref it)) Q E s := by
  cases tu with
  | true => exact nextT_item hit hl hx hQ
  | false => exact wpAny_nextOf_list_item hit hl hx hQ
theorem sq_end {tu : Bool} {it l : Addr} {i : Nat} {xs : Array Value} {Q : Value → Shared → Prop} (hh : A.handled = none) (hit : SqIt tu s.heap it l i) (hl : SqAt tu s.heap l xs) (hx : xs[i]? = none)
    (hE : ∀ h' e, Heap.ExtBut it s.heap h' → (∃ o, h'.get? e = some o ∧ o.cls = .type "StopIteration") → E (.ref e) { s with heap := h' }) : wpAny (model prog w) A (Builtin.SmallTypes.nextOf (.ref it)) Q E s := by
  cases tu with
  | true => exact nextT_end hh hit hl hx hE
  | false => exact wpAny_nextOf_list_end hh hit hl hx hE
variable {z TI TO i1 i2 l1 l2 : Addr} {k1 k2 : Nat} {xs ys : Array Value} {x y a b : Value} {tu tv : Bool}
theorem zipS_item {Q : Value → Shared → Prop} (D : ZipApart z TI TO i1 i2 l1 l2)
    (hz : IsZip s.heap z TI TO .none) (hTI : IsPair s.heap TI (.ref i1) (.ref i2)) (hTO : IsPair s.heap TO a b)
    (h1 : SqIt tu s.heap i1 l1 k1) (h2 : SqIt tv s.heap i2 l2 k2) (hl1 : SqAt tu s.heap l1 xs) (hl2 : SqAt tv s.heap l2 ys) (hx : xs[k1]? = some x) (hy : ys[k2]? = some y)
    (hQ : ∀ h', IsZip h' z TI TO (rawInt s.heap.objs.size) → IsPair h' TO x y → SqIt tu h' i1 l1 (k1 + 1) → SqIt tv h' i2 l2 (k2 + 1) → IsPair h' s.heap.objs.size x y → h'.objs.size = s.heap.objs.size + 1 →
      (∀ c o, c ≠ z → c ≠ TO → c ≠ i1 → c ≠ i2 → s.heap.get? c = some o → h'.get? c = some o) → Q (.ref s.heap.objs.size) { s with heap := h' }) :
    wpAny (model prog w) A (Builtin.«zip.__next__» ⟨[.ref z], []⟩) (fun fin s' => ∃ v, fin = .done (.ret v) ∧ Q v s') E s := by
  show wpAny _ _ (field (.ref z) 2 >>= _) _ _ _
  refine wpAny_bind (wpAny_field hz rfl (x := .bool false) rfl ?_)
  show wpAny _ _ (field (.ref z) 3 >>= _) _ _ _
  refine wpAny_bind (wpAny_field hz rfl (x := .ref TI) rfl (wpAny_bind (wpAny_seqItems hTI rfl ?_)))
  show wpAny _ _ (Builtin.SmallTypes.ownedTupleIsFree (.ref z) >>= _) _ _ _
  refine wpAny_bind ?_
  unfold Builtin.SmallTypes.ownedTupleIsFree
  refine wpAny_bind (wpAny_field hz rfl (x := .none) rfl (wpAny_pure ?_))
  simp only [if_true]
  refine wpAny_bind (wpAny_rule (wpAny_bind (wpAny_field hz rfl (x := .ref TO) rfl ?_)))
  refine wpAny_bind (wpAny_setField_rec hz (by simp) fun h₁ hz₁ hs₁ => wpAny_bind ?_)
  replace hz₁ : IsZip h₁ z TI TO .ellipsis := hz₁
  simp only [List.zipIdx_cons, List.zipIdx_nil, List.forIn_cons, List.forIn_nil]
  have k₁ : ∀ c o, c ≠ z → s.heap.get? c = some o → h₁.get? c = some o := hs₁.extBut
  refine wpAny_bind (wpAny_bind (wpAny_onRaise ?_))
  show wpAny _ _ (Builtin.SmallTypes.nextOf (.ref i1) >>= _) _ _ _
  refine wpAny_bind (sq_next (h1.to fun o e => k₁ _ o D.i1z e) (hl1.to fun o e => k₁ _ o D.l1z e) hx fun h₂ h1₂ hs₂ => wpAny_pure ?_)
  have k₂ : ∀ c o, c ≠ z → c ≠ i1 → s.heap.get? c = some o → h₂.get? c = some o := fun c o c1 c2 e => hs₂.extBut _ _ c2 (k₁ c o c1 e)
  have hTO₂ : IsPair h₂ TO a b := k₂ _ _ D.TOz D.TOi1 hTO
  refine wpAny_bind (wpAny_seqItems hTO₂ rfl (wpAny_bind (wpAny_updateSeq_pair hTO₂ fun h₃ hTO₃ hs₃ => wpAny_bind (wpAny_letGo (wpAny_pure ?_)))))
  replace hTO₃ : IsPair h₃ TO x b := hTO₃
  have k₃ : ∀ c o, c ≠ z → c ≠ i1 → c ≠ TO → s.heap.get? c = some o → h₃.get? c = some o := fun c o c1 c2 c3 e => hs₃.extBut _ _ c3 (k₂ c o c1 c2 e)
  refine wpAny_bind (wpAny_bind (wpAny_onRaise ?_))
  show wpAny _ _ (Builtin.SmallTypes.nextOf (.ref i2) >>= _) _ _ _
  refine wpAny_bind (sq_next (h2.to fun o e => k₃ _ o D.i2z D.i12.symm D.TOi2.symm e) (hl2.to fun o e => k₃ _ o D.l2z D.l2i1 D.l2TO e) hy fun h₄ h2₄ hs₄ => wpAny_pure ?_)
  have hTO₄ : IsPair h₄ TO x b := hs₄.extBut _ _ D.TOi2 hTO₃
  refine wpAny_bind (wpAny_seqItems hTO₄ rfl (wpAny_bind (wpAny_updateSeq_pair hTO₄ fun h₅ hTO₅ hs₅ => wpAny_bind (wpAny_letGo (wpAny_pure (wpAny_pure ?_))))))
  replace hTO₅ : IsPair h₅ TO x y := hTO₅
  have k₅ : ∀ c o, c ≠ z → c ≠ TO → c ≠ i1 → c ≠ i2 → s.heap.get? c = some o → h₅.get? c = some o := fun c o c1 c2 c3 c4 e => hs₅.extBut _ _ c2 (hs₄.extBut _ _ c4 (k₃ c o c1 c3 c2 e))
  have hz₅ : IsZip h₅ z TI TO .ellipsis := hs₅.extBut _ _ D.TOz.symm (hs₄.extBut _ _ D.i2z.symm (hs₃.extBut _ _ D.TOz.symm (hs₂.extBut _ _ D.i1z.symm hz₁)))
  have h1₅ : SqIt tu h₅ i1 l1 (k1 + 1) := h1₂.to fun o e => hs₅.extBut _ _ D.TOi1.symm (hs₄.extBut _ _ D.i12 (hs₃.extBut _ _ D.TOi1.symm e))
  have h2₅ : SqIt tv h₅ i2 l2 (k2 + 1) := h2₄.to fun o e => hs₅.extBut _ _ D.TOi2.symm e
  have hsz : h₅.objs.size = s.heap.objs.size := by rw [hs₅.1, hs₄.1, hs₃.1, hs₂.1, hs₁.1]
  have hzlt : z < h₅.objs.size := Heap.lt_size hz₅
  refine wpAny_bind (wpAny_seqItems hTO₅ rfl (wpAny_bind (wpAny_newTuple ?_)))
  show wpAny _ _ (Builtin.SmallTypes.ownedTupleHandOut (.ref z) (.ref h₅.objs.size) >>= _) _ _ _
  refine wpAny_bind ?_
  unfold Builtin.SmallTypes.ownedTupleHandOut
  have hz₆ : IsZip (h₅.push { cls := .type "tuple", data := .seq #[x, y] }) z TI TO .ellipsis := Heap.get?_push_of_some _ hz₅
  refine wpAny_bind (wpAny_setField_rec hz₆ (by simp) fun h₇ hz₇ hs₇ => ?_)
  replace hz₇ : IsZip h₇ z TI TO (rawInt h₅.objs.size) := hz₇
  refine wpAny_setField_rec hz₇ (by simp) fun h₈ hz₈ hs₈ => ?_
  replace hz₈ : IsZip h₈ z TI TO (rawInt h₅.objs.size) := hz₈
  have up : ∀ c o, c ≠ z → h₅.get? c = some o → h₈.get? c = some o := fun c o c1 e => hs₈.extBut _ _ c1 (hs₇.extBut _ _ c1 (Heap.get?_push_of_some _ e))
  have hT₈ : IsPair h₈ h₅.objs.size x y := hs₈.extBut _ _ (Nat.ne_of_gt hzlt) (hs₇.extBut _ _ (Nat.ne_of_gt hzlt) (Heap.get?_push_size _ rfl))
  have hz8 : h₈.objs.size = h₅.objs.size + 1 := by rw [hs₈.1, hs₇.1, Heap.size_push]
  rw [hsz] at hz₈ hT₈ hz8
  refine wpAny_pure ⟨_, rfl, ?_⟩
  show Q (.ref h₅.objs.size) _
  rw [hsz]
  exact hQ h₈ hz₈ (up _ _ D.TOz hTO₅) (h1₅.to fun o e => up _ o D.i1z e) (h2₅.to fun o e => up _ o D.i2z e) hT₈ hz8 fun c o c1 c2 c3 c4 e => up c o c1 (k₅ c o c1 c2 c3 c4 e)
theorem zipS_end {Q : PySem.Fin → Shared → Prop} (hh : A.handled = none) (D : ZipApart z TI TO i1 i2 l1 l2)
    (hz : IsZip s.heap z TI TO .none) (hTI : IsPair s.heap TI (.ref i1) (.ref i2)) (hTO : IsPair s.heap TO a b)
    (h1 : SqIt tu s.heap i1 l1 k1) (h2 : SqIt tv s.heap i2 l2 k2) (hl1 : SqAt tu s.heap l1 xs) (hl2 : SqAt tv s.heap l2 ys) (hend : xs[k1]? = none ∨ ys[k2]? = none)
    (hE : ∀ h' e, (∀ c o, c ≠ z → c ≠ TO → c ≠ i1 → c ≠ i2 → s.heap.get? c = some o → h'.get? c = some o) → (∃ o, h'.get? e = some o ∧ o.cls = .type "StopIteration") → E (.ref e) { s with heap := h' }) :
    wpAny (model prog w) A (Builtin.«zip.__next__» ⟨[.ref z], []⟩) Q E s := by
  show wpAny _ _ (field (.ref z) 2 >>= _) _ _ _
  refine wpAny_bind (wpAny_field hz rfl (x := .bool false) rfl ?_)
  show wpAny _ _ (field (.ref z) 3 >>= _) _ _ _
  refine wpAny_bind (wpAny_field hz rfl (x := .ref TI) rfl (wpAny_bind (wpAny_seqItems hTI rfl ?_)))
  show wpAny _ _ (Builtin.SmallTypes.ownedTupleIsFree (.ref z) >>= _) _ _ _
  refine wpAny_bind ?_
  unfold Builtin.SmallTypes.ownedTupleIsFree
  refine wpAny_bind (wpAny_field hz rfl (x := .none) rfl (wpAny_pure ?_))
  simp only [if_true]
  refine wpAny_bind (wpAny_rule (wpAny_bind (wpAny_field hz rfl (x := .ref TO) rfl ?_)))
  refine wpAny_bind (wpAny_setField_rec hz (by simp) fun h₁ hz₁ hs₁ => wpAny_bind ?_)
  replace hz₁ : IsZip h₁ z TI TO .ellipsis := hz₁
  simp only [List.zipIdx_cons, List.zipIdx_nil, List.forIn_cons, List.forIn_nil]
  have k₁ : ∀ c o, c ≠ z → s.heap.get? c = some o → h₁.get? c = some o := hs₁.extBut
  refine wpAny_bind (wpAny_bind (wpAny_onRaise ?_))
  show wpAny _ _ (Builtin.SmallTypes.nextOf (.ref i1) >>= _) _ _ _
  cases hx : xs[k1]? with
  | none =>
    refine wpAny_bind (sq_end hh (h1.to fun o e => k₁ _ o D.i1z e) (hl1.to fun o e => k₁ _ o D.l1z e) hx fun h₂ e hs₂ he => ?_)
    obtain ⟨oe, hoe, hce⟩ := he
    have hz₂ : IsZip h₂ z TI TO .ellipsis := hs₂ _ _ D.i1z.symm hz₁
    have hez : e ≠ z := fun x => by subst x; rw [hz₂] at hoe; cases hoe; simp at hce
    exact wpAny_setField_rec hz₂ (by simp) fun h₃ _ hs₃ => hE h₃ e (fun c o c1 _ c3 _ x => hs₃.extBut _ _ c1 (hs₂ _ _ c3 (k₁ c o c1 x))) ⟨oe, hs₃.extBut _ _ hez hoe, hce⟩
  | some x =>
    have hy : ys[k2]? = none := by
      rcases hend with h | h
      · rw [hx] at h; cases h
      · exact h
    refine wpAny_bind (sq_next (h1.to fun o e => k₁ _ o D.i1z e) (hl1.to fun o e => k₁ _ o D.l1z e) hx fun h₂ h1₂ hs₂ => wpAny_pure ?_)
    have k₂ : ∀ c o, c ≠ z → c ≠ i1 → s.heap.get? c = some o → h₂.get? c = some o := fun c o c1 c2 e => hs₂.extBut _ _ c2 (k₁ c o c1 e)
    have hTO₂ : IsPair h₂ TO a b := k₂ _ _ D.TOz D.TOi1 hTO
    refine wpAny_bind (wpAny_seqItems hTO₂ rfl (wpAny_bind (wpAny_updateSeq_pair hTO₂ fun h₃ hTO₃ hs₃ => wpAny_bind (wpAny_letGo (wpAny_pure ?_)))))
    have k₃ : ∀ c o, c ≠ z → c ≠ i1 → c ≠ TO → s.heap.get? c = some o → h₃.get? c = some o := fun c o c1 c2 c3 e => hs₃.extBut _ _ c3 (k₂ c o c1 c2 e)
    refine wpAny_bind (wpAny_bind (wpAny_onRaise ?_))
    show wpAny _ _ (Builtin.SmallTypes.nextOf (.ref i2) >>= _) _ _ _
    refine wpAny_bind (sq_end hh (h2.to fun o e => k₃ _ o D.i2z D.i12.symm D.TOi2.symm e) (hl2.to fun o e => k₃ _ o D.l2z D.l2i1 D.l2TO e) hy fun h₄ e hs₄ he => ?_)
    obtain ⟨oe, hoe, hce⟩ := he
    have hz₄ : IsZip h₄ z TI TO .ellipsis := hs₄ _ _ D.i2z.symm (hs₃.extBut _ _ D.TOz.symm (hs₂.extBut _ _ D.i1z.symm hz₁))
    have hez : e ≠ z := fun x => by subst x; rw [hz₄] at hoe; cases hoe; simp at hce
    exact wpAny_setField_rec hz₄ (by simp) fun h₅ _ hs₅ => hE h₅ e (fun c o c1 c2 c3 c4 x => hs₅.extBut _ _ c1 (hs₄ _ _ c4 (k₃ c o c1 c3 c2 x))) ⟨oe, hs₅.extBut _ _ hez hoe, hce⟩
theorem zipS_next {Q : Option Value → Shared → Prop} (D : ZipApart z TI TO i1 i2 l1 l2)
    (hz : IsZip s.heap z TI TO .none) (hTI : IsPair s.heap TI (.ref i1) (.ref i2)) (hTO : IsPair s.heap TO a b)
    (h1 : SqIt tu s.heap i1 l1 k1) (h2 : SqIt tv s.heap i2 l2 k2) (hl1 : SqAt tu s.heap l1 xs) (hl2 : SqAt tv s.heap l2 ys) (hx : xs[k1]? = some x) (hy : ys[k2]? = some y)
    (hQ : ∀ h', IsZip h' z TI TO (rawInt s.heap.objs.size) → IsPair h' TO x y → SqIt tu h' i1 l1 (k1 + 1) → SqIt tv h' i2 l2 (k2 + 1) → IsPair h' s.heap.objs.size x y → h'.objs.size = s.heap.objs.size + 1 →
      (∀ c o, c ≠ z → c ≠ TO → c ≠ i1 → c ≠ i2 → s.heap.get? c = some o → h'.get? c = some o) → Q (some (.ref s.heap.objs.size)) { s with heap := h' }) :
    wpAny (model prog w) A (pyNext (.ref z)) Q E s := by
  have hT : s.TypeIs (.ref z) "zip" := ⟨_, hz, rfl⟩
  unfold pyNext
  exact wpAny_bind (wpAny_attempt (wpAny_callSpecial?_slot (name := Str.ofString "__next__") hT F.slot_zip_next
    (wpAny_call_entry F.slot_zip_next hT F.entry_zip_next
      (zipS_item D hz hTI hTO h1 h2 hl1 hl2 hx hy fun h' a1 a2 a3 a4 a5 a6 a7 => wpAny_pure (hQ h' a1 a2 a3 a4 a5 a6 a7)) (F.args_zip_next_1 _))))
theorem zipS_stop {Q : Option Value → Shared → Prop} (hh : A.handled = none) (D : ZipApart z TI TO i1 i2 l1 l2)
    (hz : IsZip s.heap z TI TO .none) (hTI : IsPair s.heap TI (.ref i1) (.ref i2)) (hTO : IsPair s.heap TO a b)
    (h1 : SqIt tu s.heap i1 l1 k1) (h2 : SqIt tv s.heap i2 l2 k2) (hl1 : SqAt tu s.heap l1 xs) (hl2 : SqAt tv s.heap l2 ys) (hend : xs[k1]? = none ∨ ys[k2]? = none)
    (hQ : ∀ h', (∀ c o, c ≠ z → c ≠ TO → c ≠ i1 → c ≠ i2 → s.heap.get? c = some o → h'.get? c = some o) → Q none { s with heap := h' }) : wpAny (model prog w) A (pyNext (.ref z)) Q E s := by
  have hT : s.TypeIs (.ref z) "zip" := ⟨_, hz, rfl⟩
  unfold pyNext
  refine wpAny_bind (wpAny_attempt (wpAny_callSpecial?_slot (name := Str.ofString "__next__") hT F.slot_zip_next
    (wpAny_call_entry F.slot_zip_next hT F.entry_zip_next (zipS_end hh D hz hTI hTO h1 h2 hl1 hl2 hend fun h' e hk he => ?_) (F.args_zip_next_1 _))))
  obtain ⟨o, ho, hc⟩ := he
  refine wpAny_bind (wpAny_isInstance (T := "StopIteration") (b := true) ⟨o, ho, hc⟩ isSubtype_stop ?_)
  exact wpAny_pure (hQ _ hk)
end
abbrev zipHp (tu tv : Bool) (h : Heap) (l1 l2 : Addr) : Heap :=
  ((((h.push { cls := .type (itTy tu), data := .fields #[.ref l1, .int 0 0] }).push { cls := .type (itTy tv), data := .fields #[.ref l2, .int 0 0] }).push { cls := .type "tuple", data := .seq #[.ref h.objs.size, .ref (h.objs.size + 1)] }).push { cls := .type "tuple", data := .seq #[.none, .none] }).push { cls := .type "zip", data := .fields #[.none, .bool false, .bool false, .ref (h.objs.size + 2), .ref (h.objs.size + 3)] }
theorem zipS_new (tu tv : Bool) (l1 l2 : Addr) (xs ys : Array Value) :
    Meets (Builtin.«zip.__new__» ⟨[.type "zip", .ref l1, .ref l2], []⟩) (fun _ R s => SqAt tu s.heap l1 xs ∧ SqAt tv s.heap l2 ys ∧ R (.ok (.ret (.ref (s.heap.objs.size + 4)))) { s with heap := zipHp tu tv s.heap l1 l2 }) :=
  .of_wp fun prog w A R s h => by
    obtain ⟨hp, g, d, tk, os⟩ := s; obtain ⟨hl1, hl2, h⟩ := h
    have hsub := sub_zip
    have hL2 : SqAt tv (Shared.heap ⟨hp.push { cls := .type (itTy tu), data := .fields #[.ref l1, .int 0 0] }, g, d, tk, os⟩) l2 ys := hl2.to fun o e => Heap.get?_push_of_some _ e
    have hL1 : SqAt tu (Shared.heap ⟨hp, g, d, tk, os⟩) l1 xs := hl1
    wp_walk using sq_iter hL1, sq_iter hL2
    simp only [Heap.size_push]
    exact ⟨_, rfl, h⟩
theorem zipS_call {prog : Program} {w : World} {A : Around} {E : Value → Shared → Prop} {s : Shared} {tu tv : Bool} {l1 l2 : Addr} {xs ys : Array Value} {Q : Value → Shared → Prop} (hl1 : SqAt tu s.heap l1 xs) (hl2 : SqAt tv s.heap l2 ys)
    (h : ∀ h', IsZip h' (s.heap.objs.size + 4) (s.heap.objs.size + 2) (s.heap.objs.size + 3) .none → IsPair h' (s.heap.objs.size + 2) (.ref s.heap.objs.size) (.ref (s.heap.objs.size + 1)) →
      IsPair h' (s.heap.objs.size + 3) .none .none → SqIt tu h' s.heap.objs.size l1 0 → SqIt tv h' (s.heap.objs.size + 1) l2 0 →
      (∀ c o, s.heap.get? c = some o → h'.get? c = some o) → Q (.ref (s.heap.objs.size + 4)) { s with heap := h' }) :
    wpAny (model prog w) A (call (.type "zip") [.ref l1, .ref l2]) Q E s := by
  refine callType_new F.called_zip (by decide) (F.typeCall_zip_2 _ _) (F.newCall_zip_2 _ _) (fun obj => F.args_object_init_3 obj _ _) F.entry_zip_new (zipS_new tu tv l1 l2 xs ys) ⟨hl1, hl2, ?_⟩
  have g5 : ∀ (h : Heap) (o1 o2 o3 o4 o5 : Obj), o5.isFreed = false → (((((h.push o1).push o2).push o3).push o4).push o5).get? (h.objs.size + 4) = some o5 := fun h o1 o2 o3 o4 o5 z => Heap.get?_push_at (by simp only [Heap.size_push]) z
  have z5 := g5 s.heap { cls := .type (itTy tu), data := .fields #[.ref l1, .int 0 0] } { cls := .type (itTy tv), data := .fields #[.ref l2, .int 0 0] } { cls := .type "tuple", data := .seq #[.ref s.heap.objs.size, .ref (s.heap.objs.size + 1)] } { cls := .type "tuple", data := .seq #[.none, .none] }
    { cls := .type "zip", data := .fields #[.none, .bool false, .bool false, .ref (s.heap.objs.size + 2), .ref (s.heap.objs.size + 3)] } rfl
  refine ⟨⟨_, z5, rfl⟩, h _ z5 ?_ ?_ ?_ ?_ fun c o x => Heap.get?_push_of_some _ (Heap.get?_push_of_some _ (Heap.get?_push_of_some _ (Heap.get?_push_of_some _ (Heap.get?_push_of_some _ x))))⟩
  · exact Heap.get?_push_of_some _ (Heap.get?_push_of_some _ (Heap.get?_push_at (by simp only [Heap.size_push]) rfl))
  · exact Heap.get?_push_of_some _ (Heap.get?_push_at (by simp only [Heap.size_push]) rfl)
  · exact (SqIt.new (tu := tu) (h := s.heap) (l := l1)).to fun o e => Heap.get?_push_of_some _ (Heap.get?_push_of_some _ (Heap.get?_push_of_some _ (Heap.get?_push_of_some _ e)))
  · have q := SqIt.new (tu := tv) (h := s.heap.push { cls := .type (itTy tu), data := .fields #[.ref l1, .int 0 0] }) (l := l2)
    rw [Heap.size_push] at q
    exact q.to fun o e => Heap.get?_push_of_some _ (Heap.get?_push_of_some _ (Heap.get?_push_of_some _ e))
def SqX (K : PySem.W.Frag) (tu : Bool) (H : Hp) (a : Addr) (xs : List V) : Prop := if tu = true then SqT K H a xs else SqL K H a xs
theorem sqx_at {X : Cx} {pins : List (Addr × Obj)} {σ : L2.St} {H : Hp} {s : Shared} {tu : Bool} {a : Addr} {xs : List V} (I : Inv X pins σ H s) (h : SqX X.K tu H a xs) : ∃ its : List Value, Vals xs its ∧ SqAt tu s.heap a its.toArray := by
  cases tu with
  | true => obtain ⟨its, r, p, _⟩ := I.tuple (show SqT X.K H a xs from h); exact ⟨its, r, p⟩
  | false => obtain ⟨its, r, p, _⟩ := I.list (show SqL X.K H a xs from h); exact ⟨its, r, p.isList⟩
theorem sqx_inj {X : Cx} {pins : List (Addr × Obj)} {σ : L2.St} {H : Hp} {s : Shared} {tu : Bool} {a : Addr} {xs ys : List V} (I : Inv X pins σ H s) (h : SqX X.K tu H a xs) (h' : SqX X.K tu H a ys) : xs = ys := by
  cases tu with
  | true => exact I.tuple_inj h h'
  | false => exact I.list_inj h h'
def ItzS (K : PySem.W.Frag) (tu tv : Bool) (a b : Addr) : It :=
  ⟨fun i H => ∃ (xs ys : List V) (x y : V), SqX K tu H a xs ∧ SqX K tv H b ys ∧ xs[i]? = some x ∧ ys[i]? = some y,
    fun i H v H' => ∃ T x y, v = .ref T ∧ H T = none ∧ H' = upd H T (.tup [x, y]) ∧ (∀ xs, SqX K tu H a xs → xs[i]? = some x) ∧ ∀ ys, SqX K tv H b ys → ys[i]? = some y,
    fun i H => ∃ xs ys : List V, SqX K tu H a xs ∧ SqX K tv H b ys ∧ (xs.length ≤ i ∨ ys.length ≤ i)⟩
theorem turn_zipS {P : Program} {w : World} {K : PySem.W.Frag} {elts : List Expr} {kk : Nat} {tpos : Pos} {tu tv : Bool} {a b z TI TO i1 i2 : Addr} (D : ZipApart z TI TO i1 i2 a b) :
    Turn P w K (.Tuple elts kk tpos) (ItzS K tu tv a b) [z, TI, TO, i1, i2] z (fun i h => IsZip h z TI TO .none ∧ IsPair h TI (.ref i1) (.ref i2) ∧ (∃ x y, IsPair h TO x y) ∧ SqIt tu h i1 a i ∧ SqIt tv h i2 b i) where
  mem := by simp
  obj := fun i h st c hc => by
    obtain ⟨hz, hTI, ⟨x, y, hTO⟩, h1, h2⟩ := st
    obtain ⟨o1, e1, d1⟩ := h1.obj
    obtain ⟨o2, e2, d2⟩ := h2.obj
    have e' : c = z ∨ c = TI ∨ c = TO ∨ c = i1 ∨ c = i2 := by simpa using hc
    rcases e' with q | q | q | q | q
    · rw [q]; exact ⟨_, hz, fun v q => nomatch q⟩
    · rw [q]; exact ⟨_, hTI, fun v q => nomatch q⟩
    · rw [q]; exact ⟨_, hTO, fun v q => nomatch q⟩
    · rw [q]; exact ⟨o1, e1, fun v q => by rw [d1] at q; cases q⟩
    · rw [q]; exact ⟨o2, e2, fun v q => by rw [d2] at q; cases q⟩
  keep := fun i h h' st k => by
    obtain ⟨hz, hTI, ⟨x, y, hTO⟩, h1, h2⟩ := st
    exact ⟨k z (by simp) _ hz, k TI (by simp) _ hTI, ⟨x, y, k TO (by simp) _ hTO⟩, h1.to fun o q => k i1 (by simp) o q, h2.to fun o q => k i2 (by simp) o q⟩
  item := by
    intro X hP hw hK hc i pins s σ H E I hf st hg
    subst hP hw hK
    obtain ⟨hz, hTI, ⟨x0, y0, hTO⟩, h1, h2⟩ := st
    obtain ⟨xs, ys, x, y, hqx, hqy, hx, hy⟩ := hg
    obtain ⟨its, rv, p⟩ := sqx_at I hqx
    obtain ⟨its2, rv2, p2⟩ := sqx_at I hqy
    obtain ⟨u, hu, ru⟩ := rv.get hx
    obtain ⟨u2, hu2, ru2⟩ := rv2.get hy
    have hzl : z < s.heap.objs.size := Heap.lt_size hz
    refine zipS_next D hz hTI hTO h1 h2 p p2 (x := u) (y := u2) (by simpa using hu) (by simpa using hu2) fun h' z' TO' h1' h2' hT hsz hk => ?_
    refine ⟨_, rfl, wpAny_letOwnedTupleGo_zip (s := { s with heap := h' }) z' fun h'' z'' sb => ?_⟩
    have hT2 : h''.get? s.heap.objs.size = some { cls := .type "tuple", data := .seq #[u, u2] } := (sb.2 _ (Nat.ne_of_gt hzl)).trans hT
    have new : ObjOk X.prog X.w (upd H s.heap.objs.size (.tup [x, y])) h'' s.heap.objs.size (.tup [x, y]) :=
      ⟨by show 2 ≤ sizeLine; decide, [u, u2], .cons ru (.cons ru2 .nil), ⟨_, hT2, rfl, _, rfl⟩⟩
    have I1 : Inv X pins σ (upd H s.heap.objs.size (.tup [x, y])) { s with heap := h'' } :=
      I.turnedNew (t' := s.toks) (ch := [z, TI, TO, i1, i2]) (fun c o hb q => (sb.2 c (fun q' => hb (by simp [q']))).trans (hk c o (fun q' => hb (by simp [q'])) (fun q' => hb (by simp [q'])) (fun q' => hb (by simp [q'])) (fun q' => hb (by simp [q'])) q)) hf (Nat.le_refl _) new
    refine ⟨.ref s.heap.objs.size, _, I1, rfl, ⟨_, x, y, rfl, I.hok.fresh (Nat.le_refl _), rfl, fun l hl => by rw [sqx_inj I hl hqx]; exact hx, fun l hl => by rw [sqx_inj I hl hqy]; exact hy⟩, ⟨z'', ?_, ⟨u, u2, ?_⟩, ?_, ?_⟩, fun c hcm => ?_⟩
    · exact (sb.2 _ D.TIz).trans (hk _ _ D.TIz D.TITO D.TIi1 D.TIi2 hTI)
    · exact (sb.2 _ D.TOz).trans TO'
    · exact h1'.to fun o q => (sb.2 _ D.i1z).trans q
    · exact h2'.to fun o q => (sb.2 _ D.i2z).trans q
    · have hlt : c < s.heap.objs.size := by
        have e' : c = z ∨ c = TI ∨ c = TO ∨ c = i1 ∨ c = i2 := by simpa using hcm
        obtain ⟨o1, e1, _⟩ := h1.obj
        obtain ⟨o2, e2, _⟩ := h2.obj
        rcases e' with q | q | q | q | q
        · rw [q]; exact hzl
        · rw [q]; exact Heap.lt_size hTI
        · rw [q]; exact Heap.lt_size hTO
        · rw [q]; exact Heap.lt_size e1
        · rw [q]; exact Heap.lt_size e2
      rw [upd_ne (Nat.ne_of_lt hlt)]
      exact (hf c hcm).1
  done := by
    intro X hP hw hK hc i pins s σ H E I hf st hg
    subst hP hw hK
    obtain ⟨hz, hTI, ⟨x0, y0, hTO⟩, h1, h2⟩ := st
    obtain ⟨xs, ys, hqx, hqy, hend⟩ := hg
    obtain ⟨its, rv, p⟩ := sqx_at I hqx
    obtain ⟨its2, rv2, p2⟩ := sqx_at I hqy
    have l1 := rv.length
    have l2 := rv2.length
    have he : its.toArray[i]? = none ∨ its2.toArray[i]? = none := by
      rcases hend with q | q
      · exact .inl (by simp; omega)
      · exact .inr (by simp; omega)
    exact zipS_stop (I.ok.hd hc) D hz hTI hTO h1 h2 p p2 he fun h' hk => ⟨rfl, I.turnedL (t' := s.toks) (ch := [z, TI, TO, i1, i2]) (fun c o hb q =>
      hk c o (fun q' => hb (by simp [q'])) (fun q' => hb (by simp [q'])) (fun q' => hb (by simp [q'])) (fun q' => hb (by simp [q'])) q) hf⟩
  self := fun A i s Q E st h => wpAny_pyIter_zip st.1 h
def iZipS (K : PySem.W.Frag) (ta : TA) : TI := fun σ H R => ta σ H fun vs H1 => ∃ tu tv a b xs ys, vs = [.ref a, .ref b] ∧ SqX K tu H1 a xs ∧ SqX K tv H1 b ys ∧ R (ItzS K tu tv a b) H1
theorem pi_zipS {X : Cx} {e e2 : Expr} {ta : TA} {p pos tpos : Pos} {elts : List Expr} {kk : Nat} (hg : Gl X "zip") (hm : X.mg "zip" = none) (ha : PA X [e, e2] ta)
    (hs : starEach [e, e2] X.env = (false, eval e X.env) :: starEach [e2] X.env := by rfl) (hpl : (backTo pos (starEach [e2] X.env)).any (·.1) = false := by rfl) :
    PI X (.Tuple elts kk tpos) (.Call (.Name "zip" p) [e, e2] [] pos) (iZipS X.K ta) := by
  intro pins s σ H R I h
  refine Call_ (ld_blt I hg hm boot_zip5 (PyProof.Rows.callWith_type1 (thn (ha pos pins s σ H _ I h) fun us s1 ⟨vs, H1, I1, r1, q1⟩ => ?_) hs hpl))
  obtain ⟨tu, tv, a, b, xs, ys, ex, hqx, hqy, q⟩ := q1
  subst ex
  cases r1 with
  | cons r rr =>
    cases rr with
    | cons r' rr =>
      cases rr
      cases r
      cases r'
      obtain ⟨its, rv, p1⟩ := sqx_at I1 hqx
      obtain ⟨its2, rv2, p2⟩ := sqx_at I1 hqy
      refine zipS_call p1 p2 fun h' hz hTI hTO h1 h2 hk => wpAny_pyIter_zip hz ?_
      have I2 : Inv X pins σ H1 { s1 with heap := h' } := I1.kept (t' := s1.toks) hk
      refine ⟨s1.heap.objs.size + 4, [s1.heap.objs.size + 4, s1.heap.objs.size + 2, s1.heap.objs.size + 3, s1.heap.objs.size, s1.heap.objs.size + 1], _, _, H1, rfl, I2, turn_zipS (PySem.W.ktu_apart s1.heap.objs.size a b p1.lt p2.lt), ⟨hz, hTI, ⟨_, _, hTO⟩, h1, h2⟩, fun c hcm => ?_, q⟩
      have e' : c = s1.heap.objs.size + 4 ∨ c = s1.heap.objs.size + 2 ∨ c = s1.heap.objs.size + 3 ∨ c = s1.heap.objs.size ∨ c = s1.heap.objs.size + 1 := by simpa using hcm
      have hle : s1.heap.objs.size ≤ c := by
        rcases e' with z | z | z | z | z <;> rw [z] <;> first | exact Nat.le_add_right _ _ | exact Nat.le_refl _
      exact I1.fpOk hle (I1.hok.fresh hle)
end DL
namespace DL
open PySem PySem.Spec PyProof.Rows L2
def keyD : Key → PyData
  | .inl i => .int i
  | .inr s => .str s
structure DPc (X : Cx) (pos : Pos) (keys : List (Option Expr)) (values : List Expr) (kvs : List (Key × PyData)) : Prop where
  pps : PPs X pos keys values (kvs.map fun kv => (up X.K (dC (keyD kv.1)), up X.K (dC kv.2)))
  all : keys.all (·.isSome) = true
  len : keys.length = values.length
  len2 : keys.length = kvs.length
section
variable {X : Cx} {pos : Pos}
def lookD : List (Key × PyData) → Key → Option PyData
  | [], _ => none
  | (k, x) :: r, k' => if k = k' then some x else lookD r k'
def keyOf : Dv → Option Key
  | .d (.str s) => some (.inr s)
  | .d (.int i) => some (.inl i)
  | _ => none
theorem Ok.frz {K : PySem.W.Frag} {H I : Hp} {m : M} {p : Addr} {q : MO} {o : HO} (ok : Ok K H I (setM m p q)) (hm : m p = none) : Ok K (upd H p o) (upd I p o) m := by
  have hI : I p = none := by
    cases e : I p with
    | none => rfl
    | some u => have := ok.dj p u e; rw [setM_same] at this; cases this
  refine ⟨fun a u e => ?_, fun a u e => ?_, fun a z e => ?_⟩
  · by_cases h : a = p
    · subst h; rw [upd_same] at e ⊢; exact e
    · rw [upd_ne h] at e ⊢; exact ok.im a u e
  · by_cases h : a = p
    · subst h; exact hm
    · rw [upd_ne h] at e
      have := ok.dj a u e
      rwa [setM_ne h] at this
  · have h : a ≠ p := fun z => by subst z; rw [hm] at e; cases e
    obtain ⟨u, h1, h2⟩ := ok.mu a z (by rw [setM_ne h]; exact e)
    exact ⟨u, by rw [upd_ne h]; exact h1, h2.same (same_new (H := H) hI)⟩
def dPick (kvs : List (Key × PyData)) (ti : TD) : TD := fun δ m Q => ti δ m fun y m1 => ∃ k x, keyOf y = some k ∧ lookD kvs k = some x ∧ Q (.d x) m1
end
def sqD : Dv → Option (Bool × List PyData)
  | .d (.tuple xs) => some (true, xs)
  | .d (.list xs) => some (false, xs)
  | _ => none
theorem sqD_is {K : PySem.W.Frag} {I : Hp} {v : V} {y : Dv} {tu : Bool} {xs : List PyData} (h : Is K I v y) (e : sqD y = some (tu, xs)) : ∃ a vs, v = .ref a ∧ SqX K tu I a vs ∧ DpAll K I vs xs := by
  unfold sqD at e
  split at e
  · cases e
    cases (show Dp K I v (.tuple xs) from h) with
    | tup sq al => exact ⟨_, _, rfl, sq, al⟩
  · cases e
    cases (show Dp K I v (.list xs) from h) with
    | lst sq al => exact ⟨_, _, rfl, sq, al⟩
  · cases e
theorem SqX.same {K : PySem.W.Frag} {H H' : Hp} {tu : Bool} {a : Addr} {xs : List V} (e : Same H H') (h : SqX K tu H a xs) : SqX K tu H' a xs := by
  cases tu with
  | true => exact SqT.same e h
  | false => exact Same.seq e h
def zipD (xs ys : List PyData) : List Dv := (xs.zip ys).map fun p => .d (.tuple [p.1, p.2])
def dZip (ta : TAd) : TId := fun δ m R => ta δ m fun ds m1 => ∃ a b tu tv xs ys, ds = [a, b] ∧ sqD a = some (tu, xs) ∧ sqD b = some (tv, ys) ∧ R (zipD xs ys) (fun _ => True) m1
section
variable {X : Cx} {pos : Pos}
theorem di_zip {e e2 : Expr} {ta : TAd} {p tpos : Pos} {elts : List Expr} {kk : Nat} (hg : Gl X "zip") (hm : X.mg "zip" = none) (ha : DA X [e, e2] ta)
    (hs : starEach [e, e2] X.env = (false, eval e X.env) :: starEach [e2] X.env := by rfl) (hpl : (backTo pos (starEach [e2] X.env)).any (·.1) = false := by rfl) :
    DI X (.Tuple elts kk tpos) (.Call (.Name "zip" p) [e, e2] [] pos) (dZip ta) := by
  refine ⟨fun δ m R R' h q => ha.mono δ m _ _ (fun ds m1 ⟨a, b, tu, tv, xs, ys, e1, e2, e3, z⟩ => ⟨a, b, tu, tv, xs, ys, e1, e2, e3, h _ _ _ z⟩) q, PI.imp (pi_zipS hg hm ha.pa hs hpl) fun σ H R ⟨I, δ, m, ok, rl, q⟩ => ?_⟩
  refine ⟨I, δ, m, ok, rl, ha.mono δ m _ _ (fun ds m1 ⟨y1, y2, tu, tv, xs, ys, e1, e2, e3, z⟩ vs H1 I1 s1 o1 i1 => ?_) q⟩
  subst e1
  obtain ⟨v1, v2, rfl, h1, h2⟩ := isAll2 i1
  obtain ⟨a, vs, rfl, qa, aa⟩ := sqD_is h1 e2
  obtain ⟨b, ws, rfl, qb, ab⟩ := sqD_is h2 e3
  have la := dpAll_len aa
  have lb := dpAll_len ab
  refine ⟨tu, tv, a, b, vs, ws, rfl, qa.same o1.im, qb.same o1.im, z _ H1 I1 s1 o1 ⟨fun i H I' m s' o' _ hi => ?_, fun i H I' m x H' s' o' _ y => ?_, fun H I' m s' o' _ => ?_⟩⟩
  · simp only [zipD, List.length_map, List.length_zip] at hi
    exact ⟨vs, ws, vs[i]'(by omega), ws[i]'(by omega), qa.same (s'.trans o'.im), qb.same (s'.trans o'.im), by simp, by simp⟩
  · obtain ⟨T, x1, x2, rfl, hT, rfl, y1, y2⟩ := y
    have hx := y1 vs (qa.same (s'.trans o'.im))
    have hy := y2 ws (qb.same (s'.trans o'.im))
    have bx : i < vs.length := (List.getElem?_eq_some_iff.mp hx).1
    have by' : i < ws.length := (List.getElem?_eq_some_iff.mp hy).1
    have bx2 : i < (xs.map Dv.d).length := by rw [List.length_map, ← la]; exact bx
    have by2 : i < (ys.map Dv.d).length := by rw [List.length_map, ← lb]; exact by'
    obtain ⟨v', g1, g2⟩ := paired_get (isAll_of aa) (List.getElem?_eq_getElem bx2)
    obtain ⟨w', k1, k2⟩ := paired_get (isAll_of ab) (List.getElem?_eq_getElem by2)
    rw [hx] at g1; cases g1
    rw [hy] at k1; cases k1
    have fI := o'.free hT
    have sn : Same I' (upd I' T (.tup [x1, x2])) := same_new (H := H) fI
    have jx : i < xs.length := by simpa using bx2
    have jy : i < ys.length := by simpa using by2
    refine ⟨upd I' T (.tup [x1, x2]), .d (.tuple [xs[i], ys[i]]), sn, o'.new hT, fun _ => ⟨?_, ?_⟩⟩
    · rw [zipD, List.getElem?_map, List.getElem?_eq_getElem (by rw [List.length_zip]; omega)]
      simp
    · have g3 : Is X.K I1 x1 (.d xs[i]) := by simpa using g2
      have k3 : Is X.K I1 x2 (.d ys[i]) := by simpa using k2
      exact Dp.tup (SqT.of upd_same) (.cons (Dp.same (s'.trans sn) g3) (.cons (Dp.same (s'.trans sn) k3) .nil))
  · refine ⟨vs, ws, qa.same (s'.trans o'.im), qb.same (s'.trans o'.im), ?_⟩
    simp only [zipD, List.length_map, List.length_zip]
    omega
end
end DL
namespace DL
open PySem PySem.Spec PyProof.Rows L2
section
variable {prog : Program} {w : World} {A : Around} {E : Value → Shared → Prop} {s : Shared}
end
section
variable {X : Cx} {pos : Pos} {a b : Expr} {ta : TAd}
def dTupRng (ta : TAd) : TD := fun δ m Q => ta δ m fun ds m1 => ∃ i j : Int, ds = [.d (.int i), .d (.int j)] ∧ (-(2 ^ 63) + 4 ≤ i ∧ i < 2 ^ 63 - 4 ∧ -(2 ^ 63) + 4 ≤ j ∧ j < 2 ^ 63 - 4 ∧ j - i < 2 ^ 24) ∧ Q (.d (.tuple ((List.range (j - i).toNat).map fun k => .int (i + ((k : Nat) : Int))))) m1
end
end DL
namespace DL
open PySem PySem.Spec PyProof.Rows L2
def SubM (m m' : M) : Prop := ∀ a q, m a = some q → m' a = some q
theorem Ok.sub {K : PySem.W.Frag} {H I : Hp} {m m' : M} (ok : Ok K H I m') (s : SubM m m') : Ok K H I m := by
  refine ⟨ok.im, fun a o e => ?_, fun a q e => ok.mu a q (s a q e)⟩
  have := ok.dj a o e
  cases z : m a with
  | none => rfl
  | some q => rw [s a q z] at this; cases this
section
variable {P : Program} {w : World} {K : PySem.W.Frag} {mg : Str → Option Value} {base : Heap}
end
section
variable {X : Cx} {e : Expr} {te : TD} {pos p2 : Pos} {lo hi : Option Expr}
def dSlT (te : TD) (tl th : TOd) : TD := fun δ m Q => te δ m fun x m1 => tl δ m1 fun l m2 => th δ m2 fun u m3 => ∃ xs, x = .d (.tuple xs) ∧ ¬ (HT.sIx xs.length 0 l = 0 ∧ HT.sIx xs.length xs.length u = xs.length) ∧ Q (.d (.tuple (cutD xs l u))) m3
end
end DL
namespace DL
open PySem PySem.Spec PyProof.Rows L2
def isT (t T : String) : Bool := t == T || (t == "bool" && T == "int")
section
variable {X : Cx} {e : Expr} {te : TD} {pos p p2 : Pos}
end
end DL
namespace DL
open PySem PySem.Spec PyProof.Rows L2
section
variable {X : Cx} {pos : Pos}
end
end DL
namespace DL
open PySem PySem.Spec PyProof.Rows L2
section
variable {X : Cx} {e : Expr} {te : TD} {pos p2 : Pos} {lo hi : Option Expr}
def dSlM (te : TD) (tl th : TOd) : TD := fun δ m Q => te δ m fun x m1 => tl δ m1 fun l m2 => th δ m2 fun u m3 => ∃ a xs, x = .r a ∧ m3 a = some (.lst (xs.map .d)) ∧ Q (.d (.list (cutD xs l u))) m3
end
end DL
namespace DL
open PySem PySem.Spec PyProof.Rows L2
section
variable {X : Cx}
variable {elt iter iter1 : Expr} {scope : Scope} {pos ppos ppos1 : Pos} {w w1 : TId} {te : TD} {x y : Str} {i j : Nat}
end
end DL
namespace DL
open PySem PySem.Spec PyProof.Rows L2
section
variable {X : Cx} {e : Expr} {t : TAd} {pos : Pos}
def gListM : RAD
  | [.d (.list xs)], m, Q => ∀ p, m p = none → Q (.r p) (setM m p (.lst (xs.map .d)))
  | [.d (.tuple xs)], m, Q => ∀ p, m p = none → Q (.r p) (setM m p (.lst (xs.map .d)))
  | _, _, _ => False
def gTupleM : RAD
  | [.r a], m, Q => ∃ xs, m a = some (.lst (xs.map .d)) ∧ Q (.d (.tuple xs)) m
  | _, _, _ => False
end
end DL
namespace DL
open PySem PySem.Spec PyProof.Rows L2
section
variable {X : Cx} {a b c : Expr} {t : TAd} {pos pt pt2 px py pz : Pos} {kt k2} {i j k : Nat} {x y z : Str}
def sPar (i j : Nat) (t : TAd) : TSd := fun D δ m => t δ m fun ds m1 => ∃ v w, ds = [v, w] ∧ D.nx ((δ.set i (some v)).set j (some w)) m1
end
end DL
namespace DL
open PySem PySem.Spec PyProof.Rows L2
section
variable {X : Cx} {pos : Pos}
def gAnyU (K : PySem.W.Frag) (n : Nat) (t : TGs) : TG := fun v σ H Q => ∃ a xs, v = .ref a ∧ (SqT K H a xs ∨ SqL K H a xs) ∧ xs.length = n ∧ t xs σ H Q
theorem pg_anyU {es : List Expr} {k : Nat} {t : TGs} {n : Nat} (hc : X.calm = true) (h : PGs X es t)
    (hn : (assignEach es X.env).length = n := by rfl) (hst : (assignEach es X.env).findIdx? (·.1) = none := by rfl) : PG X (.Tuple es k pos) (gAnyU X.K n t) := by
  intro pins s σ H v u Q I r hw
  obtain ⟨a, xs, e1, hq, hl, hw⟩ := hw
  subst e1
  rcases hq with hq | hq
  · exact pg_tup hc h hn hst pins s σ H (.ref a) u Q I r ⟨a, xs, rfl, hq, hl, hw⟩
  · cases r
    obtain ⟨its, rv, pl, hz⟩ := I.list hq
    have e : (assignEach es X.env).length = its.toArray.size := by simp [hn, ← hl, rv.length]
    rw [assign_Tuple]
    refine wpAny_bind (wpAny_standAt ?_)
    unfold unpack
    rw [e, hst]
    refine wpAny_bind (wpAny_holding (PySem.W.kun_itemsOf (I.ok.hd hc) pl.isList fun h' hx => ?_))
    have I1 : Inv X pins σ H { s with heap := h' } := I.kept (t' := s.toks) fun b o e => hx b o (Nat.ne_of_lt (Heap.lt_size e)) e
    exact h pins _ σ H xs _ Q I1 (by simpa using rv) hw
def dgAny (n : Nat) (t : TGds) : TGd
  | .d (.tuple xs), δ, m, Q => xs.length = n ∧ t (xs.map .d) δ m Q
  | .d (.list xs), δ, m, Q => xs.length = n ∧ t (xs.map .d) δ m Q
  | .r a, δ, m, Q => ∃ xs, m a = some (.lst xs) ∧ xs.length = n ∧ t xs δ m Q
  | _, _, _, _ => False
theorem dg_any {es : List Expr} {k : Nat} {t : TGds} {n : Nat} (hc : X.calm = true) (h : DGs X es t)
    (hn : (assignEach es X.env).length = n := by rfl) (hst : (assignEach es X.env).findIdx? (·.1) = none := by rfl) : DG X (.Tuple es k pos) (dgAny n t) := by
  refine ⟨fun x δ m Q Q' hq q => ?_, PG.imp (pg_anyU hc h.pgs hn hst) fun v σ H Q ⟨I, δ, m, x, ok, rl, is, q⟩ => ?_⟩
  · unfold dgAny at q ⊢
    split at q
    · exact ⟨q.1, h.mono _ δ m Q Q' hq q.2⟩
    · exact ⟨q.1, h.mono _ δ m Q Q' hq q.2⟩
    · obtain ⟨xs, e, l, q⟩ := q; exact ⟨xs, e, l, h.mono _ δ m Q Q' hq q⟩
    · exact q.elim
  · unfold dgAny at q
    split at q
    · cases (show Dp X.K I v (.tuple _) from is) with
      | tup sq al => exact ⟨_, _, rfl, .inl (SqT.same ok.im sq), by rw [paired_len (isAll_of al), List.length_map]; exact q.1, I, _, _, _, ok, rl, isAll_of al, q.2⟩
    · cases (show Dp X.K I v (.list _) from is) with
      | lst sq al => exact ⟨_, _, rfl, .inr (Same.seq ok.im sq), by rw [paired_len (isAll_of al), List.length_map]; exact q.1, I, _, _, _, ok, rl, isAll_of al, q.2⟩
    · obtain ⟨xs, e, l, q⟩ := q
      have is : v = .ref _ := is
      subst is
      obtain ⟨ws, hw, al⟩ := ok.lst e
      exact ⟨_, ws, rfl, .inr (SqL.of hw), by rw [paired_len al]; exact l, I, _, _, _, ok, rl, al, q⟩
    · exact q.elim
end
section
variable {X : Cx} {e : Expr} {t : TAd} {pos : Pos}
end
end DL
namespace DL
open PySem PySem.Spec PyProof.Rows L2
abbrev KI (K : PySem.W.Frag) (I : Hp) : List (List Int × Dv) → List (List Key × Addr × Value) → Prop :=
  Paired fun p q => q.1 = p.1.map Sum.inl ∧ SqT K I q.2.1 (p.1.map V.int) ∧ ∃ v, RelV v q.2.2 ∧ Is K I v p.2
theorem KI.same {K : PySem.W.Frag} {I I' : Hp} (e : Same I I') {kvs : List (List Int × Dv)} {xs : List (List Key × Addr × Value)} (h : KI K I kvs xs) : KI K I' kvs xs :=
  paired_imp (fun _ _ ⟨a, b, v, c, d⟩ => ⟨a, SqT.same e b, v, c, d.same e⟩) h
def lookL : List (List Int × Dv) → List Int → Option Dv
  | [], _ => none
  | (k, x) :: r, k' => if k = k' then some x else lookL r k'
theorem inl_inj : ∀ {a b : List Int}, a.map (Sum.inl : Int → Key) = b.map Sum.inl → a = b
  | [], [], _ => rfl
  | [], _ :: _, h => by simp at h
  | _ :: _, [], h => by simp at h
  | x :: a, y :: b, h => by
    simp only [List.map_cons, List.cons.injEq, Sum.inl.injEq] at h
    rw [h.1, inl_inj h.2]
theorem KI.get {K : PySem.W.Frag} {I : Hp} {ks : List Int} {x : Dv} : ∀ {kvs : List (List Int × Dv)} {xs : List (List Key × Addr × Value)}, KI K I kvs xs → lookL kvs ks = some x → ∃ p, atKey xs (ks.map Sum.inl) = some p ∧ ∃ v, RelV v p.2 ∧ Is K I v x
  | _, _, .nil, e => by cases e
  | _, _, .cons (a := p) (b := q) h t, e => by
    unfold lookL at e
    by_cases z : p.1 = ks
    · rw [if_pos z] at e; cases e
      exact ⟨q.2, by simp [atKey, List.find?_cons, h.1, z], h.2.2⟩
    · rw [if_neg z] at e
      obtain ⟨p', h1, h2⟩ := KI.get t e
      have n : ¬ q.1 = ks.map Sum.inl := fun y => z (inl_inj (h.1.symm.trans y))
      refine ⟨p', Eq.trans ?_ h1, h2⟩
      simp [atKey, List.find?_cons, n]
theorem KI.new {K : PySem.W.Frag} {I : Hp} {ks : List Int} : ∀ {kvs : List (List Int × Dv)} {xs : List (List Key × Addr × Value)}, KI K I kvs xs → (∀ p ∈ kvs, p.1 ≠ ks) → (∀ q ∈ xs, q.1 ≠ ks.map Sum.inl)
  | _, _, .nil, _ => by simp
  | _, _, .cons (a := p) (b := q) h t, e => by
    intro q' hq
    rcases List.mem_cons.mp hq with rfl | hq
    · exact fun y => e p (by simp) (inl_inj (h.1.symm.trans y))
    · exact KI.new t (fun p' hp => e p' (by simp [hp])) q' hq
theorem keyI {X : Cx} {pins : List (Addr × Obj)} {σ : L2.St} {H : Hp} {s : Shared} (I : Inv X pins σ H s) {b : Addr} {ks : List Int} (h : SqT X.K H b (ks.map V.int)) : (tupleKind (mixKind X.prog X.w)).is s.heap (ks.map Sum.inl) b := by
  obtain ⟨its, r, ⟨o, h1, h2, n, h3⟩, _⟩ := I.tuple h
  have e : ks.map V.int = (ks.map (Sum.inl : Int → Key)).map kV := by rw [List.map_map]; rfl
  rw [e] at r
  exact ⟨o, its.toArray, n, h1, h2, h3, by simpa using items_are r⟩
theorem KI.all {X : Cx} {pins : List (Addr × Obj)} {σ : L2.St} {H : Hp} {s : Shared} (I : Inv X pins σ H s) : ∀ {kvs : List (List Int × Dv)} {xs : List (List Key × Addr × Value)}, KI X.K H kvs xs → ∀ x ∈ xs, (tupleKind (mixKind X.prog X.w)).is s.heap x.1 x.2.1
  | _, _, .nil => by simp
  | _, _, .cons (a := p) (b := q) h t => by
    intro x hx
    rcases List.mem_cons.mp hx with rfl | hx
    · rw [h.1]; exact keyI I h.2.1
    · exact KI.all I t x hx
theorem KI.len {K : PySem.W.Frag} {I : Hp} {kvs : List (List Int × Dv)} {xs : List (List Key × Addr × Value)} (h : KI K I kvs xs) : kvs.length = xs.length := paired_len h
section
variable {X : Cx} {pos : Pos}
end
end DL
namespace DL
open PySem PySem.Spec PyProof.Rows L2
section
variable {X : Cx} {e : Expr} {t : TAd} {pos : Pos}
def gListD : RAD
  | [.d (.list xs)], m, Q => Q (.d (.list xs)) m
  | [.d (.tuple xs)], m, Q => Q (.d (.list xs)) m
  | _, _, _ => False
end
end DL
namespace DL
open PySem PySem.Spec PyProof.Rows L2
def occ (i j : Str) : Bool := !(Builtin.Str.occurrences j i 0 j.length 1).isEmpty
def gInS : R2D
  | .d (.str i), .d (.str j), m, Q => Q (.d (.bool (occ i j))) m
  | _, _, _, _ => False
section
variable {X : Cx} {a b : Expr} {ta tb : TD} {pos : Pos}
end
end DL
namespace DL
open PySem PySem.Spec PyProof.Rows L2
section
variable {X : Cx} {a b e : Expr} {ta tb te : TD} {pos pos2 : Pos}
def dRep1 (te tb : TD) : TD := fun δ m Q => te δ m fun x m1 => tb δ m1 fun y m2 => ∃ (d : PyData) (k : Int), x = .d d ∧ y = .d (.int k) ∧ k ≤ 16777216 ∧ -(2 ^ 63) ≤ k ∧ Q (.d (.list (List.replicate k.toNat d))) m2
def gAddT : R2D
  | .d (.tuple xs), .d (.tuple ys), m, Q => xs ≠ [] ∧ ys ≠ [] ∧ xs.length + ys.length ≤ 16777216 ∧ Q (.d (.tuple (xs ++ ys))) m
  | _, _, _, _ => False
end
end DL
namespace DL
open PySem PySem.Spec PyProof.Rows L2
section
variable {X : Cx} {o e : Expr} {to te : TD} {pos apos : Pos}
end
end DL
namespace DL
open PySem PySem.Spec PyProof.Rows L2
section
variable {X : Cx} {o e : Expr} {to te : TD} {pos apos : Pos}
end
end DL
namespace DL
open PySem
theorem below_spec (xs : Array Nat) (j : Nat) (hs : xs.toList.Pairwise (· < ·)) :
    SetTable.below xs j ≤ xs.size ∧ (∀ (i v : Nat), xs[i]? = some v → i < SetTable.below xs j → v < j) ∧ (∀ (i v : Nat), xs[i]? = some v → SetTable.below xs j ≤ i → j ≤ v) := by
  have hlt : ∀ (i k v u : Nat), xs[i]? = some v → xs[k]? = some u → i < k → v < u := by
    intro i k v u hi hk h
    rw [← Array.getElem?_toList] at hi hk
    obtain ⟨p1, rfl⟩ := List.getElem?_eq_some_iff.mp hi
    obtain ⟨p2, rfl⟩ := List.getElem?_eq_some_iff.mp hk
    exact List.pairwise_iff_getElem.mp hs i k p1 p2 h
  have key : ∀ (fuel lo hi : Nat), hi ≤ xs.size → lo ≤ hi → hi - lo ≤ fuel → (∀ (i v : Nat), xs[i]? = some v → i < lo → v < j) → (∀ (i v : Nat), xs[i]? = some v → hi ≤ i → j ≤ v) →
      SetTable.below.go xs j fuel lo hi ≤ xs.size ∧ (∀ (i v : Nat), xs[i]? = some v → i < SetTable.below.go xs j fuel lo hi → v < j) ∧ (∀ (i v : Nat), xs[i]? = some v → SetTable.below.go xs j fuel lo hi ≤ i → j ≤ v) := by
    intro fuel
    induction fuel with
    | zero =>
      intro lo hi h1 h2 h3 ha hb
      have : lo = hi := by omega
      subst this
      exact ⟨h1, ha, hb⟩
    | succ n ih =>
      intro lo hi h1 h2 h3 ha hb
      unfold SetTable.below.go
      by_cases c : lo < hi
      · rw [if_pos c]
        have hm : (lo + hi) / 2 < xs.size := by omega
        have hget : xs[(lo + hi) / 2]? = some xs[(lo + hi) / 2] := Array.getElem?_eq_getElem hm
        have hgd : xs.getD ((lo + hi) / 2) j = xs[(lo + hi) / 2] := by simp [Array.getD, hm]
        dsimp only
        rw [hgd]
        by_cases d : xs[(lo + hi) / 2] < j
        · rw [if_pos d]
          refine ih _ _ h1 (by omega) (by omega) (fun i v hq hl => ?_) hb
          rcases Nat.lt_or_ge i ((lo + hi) / 2) with e | e
          · exact Nat.lt_trans (hlt _ _ _ _ hq hget e) d
          · have : i = (lo + hi) / 2 := by omega
            subst this
            rw [hget] at hq; cases hq; exact d
        · rw [if_neg d]
          refine ih _ _ (by omega) (by omega) (by omega) ha (fun i v hq hl => ?_)
          rcases Nat.lt_or_ge ((lo + hi) / 2) i with e | e
          · have := hlt _ _ _ _ hget hq e; omega
          · have : i = (lo + hi) / 2 := by omega
            subst this
            rw [hget] at hq; cases hq; omega
      · rw [if_neg c]
        have : lo = hi := by omega
        subst this
        exact ⟨h1, ha, hb⟩
  exact key xs.size 0 xs.size (Nat.le_refl _) (Nat.zero_le _) (by omega) (fun i v _ h => absurd h (Nat.not_lt_zero _)) (fun i v hi h => by
    have := (Array.getElem?_eq_some_iff.mp hi).1; omega)
structure Tk (w : World) (t : SetTable) : Prop where
  led : t.led = !w.params.followText "set-order"
  dum : t.dummies = #[]
  ris : t.place.toList.Pairwise (· < ·)
variable {w : World}
theorem Tk.fresh : Tk w (.fresh 0 0 (!w.params.followText "set-order")) := ⟨rfl, rfl, by simp [SetTable.fresh]⟩
theorem Tk.stand {t : SetTable} (h : Tk w t) (n : Nat) : Tk w (t.standIn n) :=
  ⟨h.led, rfl, by simpa [SetTable.standIn] using List.pairwise_lt_range⟩
theorem slot_of_dum {t : SetTable} (hd : t.dummies = #[]) (j : Nat) : t.slot j ≠ .dummy := by
  unfold SetTable.slot
  dsimp only
  split
  · simp
  · have : SetTable.has t.dummies j = false := by rw [hd]; simp [SetTable.has]
    rw [this]; simp
theorem probe_empty {t : SetTable} (hd : t.dummies = #[]) (ha : Nat → Int) (h : Int) : ∀ (fuel : Nat) (p : SetTable.Probe) (j : Nat) (d : Option Nat),
    SetTable.probe.go t ha h fuel p = some (.empty j d) → t.slot j = .empty ∧ d = p.dummy := by
  intro fuel
  induction fuel with
  | zero => intro p j d e; simp [SetTable.probe.go] at e
  | succ n ih =>
    intro p j d e
    unfold SetTable.probe.go at e
    split at e
    · rename_i hs
      simp only [Option.some.injEq, SetTable.Met.empty.injEq] at e
      obtain ⟨rfl, rfl⟩ := e
      exact ⟨hs, rfl⟩
    · rename_i hs
      exact absurd hs (slot_of_dum hd _)
    · split at e
      · cases e
      · obtain ⟨h1, h2⟩ := ih _ _ _ e
        refine ⟨h1, h2.trans ?_⟩
        unfold SetTable.advance
        split <;> rfl
theorem ins_rising {xs : Array Nat} {j : Nat} (hs : xs.toList.Pairwise (· < ·)) (hn : xs[SetTable.below xs j]? ≠ some j) : (SetTable.insertAt xs (SetTable.below xs j) j).toList.Pairwise (· < ·) := by
  obtain ⟨h1, h2, h3⟩ := below_spec xs j hs
  rw [SetTable.toList_insertAt, List.pairwise_append]
  have hd : ∀ v ∈ xs.toList.drop (SetTable.below xs j), j < v := by
    intro v hv
    obtain ⟨i, hi⟩ := List.getElem?_of_mem hv
    rw [List.getElem?_drop, Array.getElem?_toList] at hi
    have := h3 _ _ hi (by omega)
    rcases Nat.lt_or_ge j v with c | c
    · exact c
    · exfalso
      have e : v = j := by omega
      subst e
      rcases Nat.eq_zero_or_pos i with rfl | hp
      · exact hn hi
      · have hb : SetTable.below xs v < xs.size := by have := (Array.getElem?_eq_some_iff.mp hi).1; omega
        have q1 := h3 _ _ (Array.getElem?_eq_getElem hb) (Nat.le_refl _)
        obtain ⟨p2, q2⟩ := Array.getElem?_eq_some_iff.mp hi
        have := List.pairwise_iff_getElem.mp hs (SetTable.below xs v) (SetTable.below xs v + i) (by simpa using hb) (by simpa using p2) (by omega)
        simp only [Array.getElem_toList] at this
        omega
  refine ⟨hs.sublist (List.take_sublist _ _), List.pairwise_cons.mpr ⟨hd, hs.sublist (List.drop_sublist _ _)⟩, fun a ha b hb => ?_⟩
  obtain ⟨i, hi⟩ := List.getElem?_of_mem ha
  have hi2 : i < SetTable.below xs j := by
    have := (List.getElem?_eq_some_iff.mp hi).1
    rw [List.length_take] at this; omega
  rw [List.getElem?_take_of_lt hi2, Array.getElem?_toList] at hi
  have := h2 _ _ hi hi2
  rcases List.mem_cons.mp hb with rfl | hb
  · exact this
  · have := hd b hb; omega
theorem Tk.put {t : SetTable} (h : Tk w t) {j : Nat} (hj : t.slot j = .empty) : Tk w (t.put j).1 := by
  refine ⟨h.led, ?_, ?_⟩
  · show (if SetTable.has t.dummies j = true then _ else t.dummies) = #[]
    rw [h.dum]
    simp [SetTable.has]
  · show (SetTable.insertAt t.place (SetTable.below t.place j) j).toList.Pairwise (· < ·)
    refine ins_rising h.ris fun e => ?_
    unfold SetTable.slot at hj
    dsimp only at hj
    rw [e] at hj
    simp at hj
theorem Tk.or {t : SetTable} (h : Tk w t) (n : Nat) : Tk w (t.orStandIn n) := by
  unfold SetTable.orStandIn
  split
  · exact h
  · exact h.stand n
theorem Tk.lay {t : SetTable} (h : Tk w t) (es : Array (Int × Value)) (hh : Int) (x : Value) : Tk w (layNew t es hh x).2.1 := by
  unfold layNew
  split
  · rename_i slot wd e
    dsimp only
    refine Tk.or (h.put ?_) _
    unfold SetTable.freeSlot at e
    split at e
    · rename_i j d e2
      obtain ⟨h1, h2⟩ := probe_empty h.dum _ _ _ _ _ _ e2
      have : d = none := h2
      subst this
      simp only [Option.getD_none, Option.some.injEq, Prod.mk.injEq] at e
      rw [← e.1]; exact h1
    · cases e
  · exact h.stand _
theorem filterMap_rising {f : Nat → Option (Nat × Nat)} (hf : ∀ j p, f j = some p → p.1 = j) : ∀ (l : List Nat), l.Pairwise (· < ·) → ((l.filterMap f).map (·.1)).Pairwise (· < ·) := by
  intro l
  induction l with
  | nil => intro _; simp
  | cons a t ih =>
    intro h
    obtain ⟨h1, h2⟩ := List.pairwise_cons.mp h
    rw [List.filterMap_cons]
    split
    · exact ih h2
    · rename_i p hp
      rw [List.map_cons, List.pairwise_cons]
      refine ⟨fun b hb => ?_, ih h2⟩
      obtain ⟨q, hq, rfl⟩ := List.mem_map.mp hb
      obtain ⟨c, hc, hq⟩ := List.mem_filterMap.mp hq
      rw [hf _ _ hp, hf _ _ hq]
      exact h1 c hc
theorem Tk.laid {t : SetTable} (h : Tk w t) {es : Array Int} {n : Nat} {t' : SetTable} {order : Array Nat} (e : t.relaid es n = some (t', order)) : Tk w t' := by
  unfold SetTable.relaid SetTable.laid at e
  obtain ⟨owner, _, e⟩ := Option.bind_eq_some_iff.mp e
  simp only [pure, Option.some.injEq, Prod.mk.injEq] at e
  obtain ⟨rfl, _⟩ := e
  refine ⟨h.led, rfl, ?_⟩
  dsimp only
  refine filterMap_rising (f := fun j => (owner.getD j none).map (j, ·)) (fun j p e => ?_) _ List.pairwise_lt_range
  obtain ⟨k, _, rfl⟩ := Option.map_eq_some_iff.mp e
  rfl
theorem Tk.relay {t : SetTable} (h : Tk w t) (es : Array (Int × Value)) (n : Nat) : Tk w (relayAll t es n).2.1 := by
  unfold relayAll
  split
  · rename_i t' order e
    dsimp only
    split
    · exact h.laid e
    · exact h.stand _
  · exact h.stand _
end DL
namespace DL
open PySem PySem.Spec PyProof.Rows
def SetI (P : Program) (w : World) (a : Addr) (ks : List Int) (h : Heap) : Prop :=
  ∃ o es ep t, h.get? a = some o ∧ o.ExactSet ∧ o.data = .set es ep t ∧ ElemsOf (intKind P w) es.toList ∧ es.size < scanBound ∧ t.fits es.size = true ∧ Tk w t ∧
    ∃ l : List Int, l.Perm ks ∧ IntsAre (es.toList.map (·.2)) l
theorem SetI.typeIs {P : Program} {w : World} {a : Addr} {ks : List Int} {s : Shared} (h : SetI P w a ks s.heap) : s.TypeIs (.ref a) "set" := by
  obtain ⟨o, _, _, _, ho, hx, _⟩ := h
  exact ⟨o, ho, hx.1⟩
theorem SetI.at {P : Program} {w : World} {a : Addr} {ks : List Int} {h h' : Heap} (x : SetI P w a ks h) (k : ∀ o, h.get? a = some o → h'.get? a = some o) : SetI P w a ks h' := by
  obtain ⟨o, es, ep, t, ho, r⟩ := x
  exact ⟨o, es, ep, t, k o ho, r⟩
def addK (ks : List Int) (k : Int) : List Int := if k ∈ ks then ks else ks ++ [k]
theorem intsAre_app : ∀ {a b : List Value} {m n : List Int}, IntsAre a m → IntsAre b n → IntsAre (a ++ b) (m ++ n)
  | _, _, _, _, .nil, q => q
  | _, _, _, _, .cons k t r, q => .cons k t (intsAre_app r q)
theorem intsAre_mem : ∀ {vs : List Value} {l : List Int}, IntsAre vs l → ∀ (k : Int), k ∈ l ↔ ∃ v ∈ vs, Value.isInt k v = true
  | _, _, .nil, k => by simp
  | _, _, .cons n t r, k => by
    rw [List.mem_cons, intsAre_mem r k]
    constructor
    · rintro (rfl | ⟨v, hv, h⟩)
      · exact ⟨_, List.mem_cons_self, by simp [Value.isInt]⟩
      · exact ⟨v, List.mem_cons_of_mem _ hv, h⟩
    · rintro ⟨v, hv, h⟩
      rcases List.mem_cons.mp hv with rfl | hv
      · exact .inl (by have := h; simp [Value.isInt] at this; first | exact this | exact this.symm)
      · exact .inr ⟨v, hv, h⟩
theorem intsAre_perm {vs vs' : List Value} (p : vs'.Perm vs) : ∀ {l : List Int}, IntsAre vs l → ∃ l', l'.Perm l ∧ IntsAre vs' l' := by
  induction p with
  | nil => intro l h; exact ⟨l, .refl _, h⟩
  | cons x _ ih =>
    intro l h
    cases h with
    | cons n t r => obtain ⟨l', h1, h2⟩ := ih r; exact ⟨n :: l', h1.cons _, .cons n t h2⟩
  | swap x y l0 =>
    intro l h
    cases h with
    | cons n t r => cases r with
      | cons n2 t2 r2 => exact ⟨_, List.Perm.swap _ _ _, .cons n2 t2 (.cons n t r2)⟩
  | trans _ _ ih1 ih2 =>
    intro l h
    obtain ⟨l1, h1, h2⟩ := ih2 h
    obtain ⟨l2, h3, h4⟩ := ih1 h2
    exact ⟨l2, h3.trans h1, h4⟩
section
variable {P : Program} {w : World} {A : Around} {E : Value → Shared → Prop} {s : Shared} {a : Addr}
theorem setI_store {h : Heap} {o : Obj} {es : Array (Int × Value)} {ep : Nat} {t : SetTable} (ho : h.get? a = some o) (hx : o.ExactSet) (hd : o.data = .set es ep t) {e2 : Array (Int × Value)} {t2 : SetTable} {ks l : List Int}
    (hel : ElemsOf (intKind P w) e2.toList) (hb : e2.size < scanBound) (hf : t2.fits e2.size = true) (ht : Tk w t2) (hp : l.Perm ks) (hi : IntsAre (e2.toList.map (·.2)) l) :
    (h.update a (Obj.putSet e2 t2)).get? a = some { o with data := .set e2 (ep + 1) t2 } ∧ SetI P w a ks (h.update a (Obj.putSet e2 t2)) := by
  have hg : (h.update a (Obj.putSet e2 t2)).get? a = some { o with data := .set e2 (ep + 1) t2 } := by
    have z := Heap.get?_update_self (Obj.putSet e2 t2) ho (by rw [putSet_of e2 t2 hd]; rfl)
    rw [putSet_of e2 t2 hd] at z; exact z
  exact ⟨hg, _, e2, ep + 1, t2, hg, hx, rfl, hel, hb, hf, ht, l, hp, hi⟩
theorem setI_tail {g : Bool → Sem Unit} (hg : ∀ (b : Bool) (s1 : Shared) (Z : Unit → Shared → Prop), Z () s1 → wpAny (model P w) A (g b) Z E s1)
    {o : Obj} {es : Array (Int × Value)} {ep : Nat} {t : SetTable} (ho : s.heap.get? a = some o) (hx : o.ExactSet) (hd : o.data = .set es ep t)
    {e1 : Array (Int × Value)} {t2 : SetTable} {ks l : List Int} (hel : ElemsOf (intKind P w) e1.toList) (hb : e1.size < scanBound) (hf : t2.fits e1.size = true) (ht : Tk w t2) (hp : l.Perm ks) (hi : IntsAre (e1.toList.map (·.2)) l)
    {wd : Bool} {R : Option Bool → Shared → Prop}
    (h : ∀ h', Heap.SameBut a s.heap h' → SetI P w a ks h' → R (some true) { s with heap := h' }) :
    wpAny (model P w) A (do
        storeSet a e1 t2
        if (!wd && t2.tooFull) = true then do
            g (relayAll t2 e1 (SetTable.grown e1.size)).2.2
            storeSet a (relayAll t2 e1 (SetTable.grown e1.size)).1 (relayAll t2 e1 (SetTable.grown e1.size)).2.1
            pure (some true)
          else pure (some true)) R E s := by
  refine wpAny_bind (wpAny_storeSet_of ho hd ?_ (fits_of_scanBound hb))
  obtain ⟨o1, S1⟩ := setI_store (P := P) ho hx hd hel hb hf ht hp hi
  have sb := Heap.SameBut.update s.heap a (Obj.putSet e1 t2)
  split
  · have pr := relayAll_perm t2 e1 (SetTable.grown e1.size)
    have fr := relayAll_fits t2 e1 (SetTable.grown e1.size)
    have kr := ht.relay e1 (SetTable.grown e1.size)
    generalize relayAll t2 e1 (SetTable.grown e1.size) = Z at pr fr kr ⊢
    obtain ⟨e3, t3, gv⟩ := Z
    dsimp only at pr fr kr ⊢
    have hz : e3.size = e1.size := by rw [← Array.length_toList, pr.length_eq, Array.length_toList]
    have hb3 : e3.size < scanBound := by rw [hz]; exact hb
    obtain ⟨l3, p3, i3⟩ := intsAre_perm (pr.map (·.2)) hi
    refine wpAny_bind (hg _ _ _ ?_)
    refine wpAny_bind (wpAny_storeSet_of o1 rfl ?_ (fits_of_scanBound hb3))
    obtain ⟨_, S3⟩ := setI_store (P := P) o1 hx rfl (hel.perm pr) hb3 fr kr (p3.trans hp) i3
    exact wpAny_pure (h _ (sb.trans (Heap.SameBut.update _ a _)) S3)
  · exact wpAny_pure (h _ sb S1)
theorem setI_add {ks : List Int} {k : Int} {tk : Tok} {Q : Bool → Shared → Prop} (hS : SetI P w a ks s.heap) (hr : ks.length + 1 < scanBound)
    (h : ∀ b h', Heap.SameBut a s.heap h' → SetI P w a (addK ks k) h' → Q b { s with heap := h' }) :
    wpAny (model P w) A (setAddHashed a (.int k tk) ((intKind P w).hash k)) Q E s := by
  obtain ⟨o, es, ep, t, ho, hx, hd, hel, hb, hf, ht, l, hp, hi⟩ := id hS
  have hkey : (intKind P w).is k (.int k tk) = true := intKind_is _ _ _ _
  have hlen : es.size = ks.length := by
    have := hi.length
    rw [List.length_map, Array.length_toList] at this
    rw [this]; exact hp.length_eq
  have hb1 : es.size + 1 < scanBound := by rw [hlen]; exact hr
  have hmem : k ∈ ks ↔ ∃ e ∈ es.toList, (intKind P w).is k e.2 = true := by
    rw [← hp.mem_iff, intsAre_mem hi k]
    constructor
    · rintro ⟨v, hv, q⟩
      obtain ⟨e, he, rfl⟩ := List.mem_map.mp hv
      exact ⟨e, he, q⟩
    · rintro ⟨e, he, q⟩
      exact ⟨e.2, List.mem_map.mpr ⟨e, he, rfl⟩, q⟩
  unfold setAddHashed setAddHashedIn
  refine wpAny_holding (wpAny_bind (wpAny_setState_of ho hd hf ?_))
  dsimp only
  rw [byScan_of (knd := intKind P w) rfl hb hel]
  simp only [↓reduceIte]
  unfold setAddByScan
  refine wpAny_bind ?_
  refine wpAny_bind (wpAny_rule ?_)
  refine wpAny_bind (wpAny_setScan_of hkey ho hd hf hel ?_)
  cases hq : List.findIdx? (fun e => (intKind P w).is k e.2) es.toList with
  | some j =>
    dsimp only
    obtain ⟨hj, hpj, _⟩ := List.findIdx?_eq_some_iff_getElem.mp hq
    refine wpAny_pure (wpAny_pure ?_)
    have z := h false s.heap (Heap.SameBut.refl a s.heap) (by unfold addK; rw [if_pos (hmem.mpr ⟨_, List.getElem_mem hj, hpj⟩)]; exact hS)
    exact z
  | none =>
    dsimp only
    have hn : k ∉ ks := fun c => by
      obtain ⟨e, he, q⟩ := hmem.mp c
      have := List.findIdx?_eq_none_iff.mp hq e he
      rw [q] at this; cases this
    have e2 : addK ks k = ks ++ [k] := by unfold addK; rw [if_neg hn]
    rw [e2] at h
    have hgw : ∀ (b : Bool) {s1 : Shared} {Z : Unit → Shared → Prop}, Z () s1 → wpAny (model P w) A (match b with | true => rule "set.scan.the-table-gave-way" | false => pure ()) Z E s1 :=
      fun b s1 Z z => by cases b <;> first | exact wpAny_pure z | exact wpAny_rule z
    have pr := layNew_perm t es ((intKind P w).hash k) (.int k tk)
    have fr := layNew_fits t es ((intKind P w).hash k) (.int k tk)
    have kr := ht.lay es ((intKind P w).hash k) (.int k tk)
    generalize layNew t es ((intKind P w).hash k) (.int k tk) = L at pr fr kr ⊢
    obtain ⟨e1, t1, wd, gv⟩ := L
    dsimp only at pr fr kr ⊢
    rw [Array.toList_push] at pr
    have hel1 : ElemsOf (intKind P w) e1.toList := (hel.push hkey rfl).perm pr
    have hb1' : e1.size < scanBound := by rw [← Array.length_toList, pr.length_eq, List.length_append, Array.length_toList]; simpa using hb1
    have i0 : IntsAre ((es.toList ++ [((intKind P w).hash k, Value.int k tk)]).map (·.2)) (l ++ [k]) := by
      rw [List.map_append]; exact intsAre_app hi (.cons k tk .nil)
    obtain ⟨l3, p3, i3⟩ := intsAre_perm (pr.map (·.2)) i0
    have p4 : l3.Perm (ks ++ [k]) := p3.trans (hp.append_right _)
    refine wpAny_bind (hgw _ ?_)
    split
    · refine wpAny_bind ?_
      rw [hashByValue_scannable 8 rfl]
      refine wpAny_pure ?_
      show wpAny _ _ _ _ _ _
      simp only [plainKind, ↓reduceIte]
      refine setI_tail (g := fun b => match b with | true => rule "set.scan.the-table-gave-way" | false => pure ()) (fun b s1 Z z => hgw b z) ho hx hd hel1 hb1' fr kr p4 i3 ?_
      intro h' sb S'; dsimp only; exact wpAny_pure (h _ h' sb S')
    · refine wpAny_bind (wpAny_pure ?_)
      simp only [↓reduceIte]
      refine setI_tail (g := fun b => match b with | true => rule "set.scan.the-table-gave-way" | false => pure ()) (fun b s1 Z z => hgw b z) ho hx hd hel1 hb1' fr kr p4 i3 ?_
      intro h' sb S'; dsimp only; exact wpAny_pure (h _ h' sb S')
end
end DL
namespace DL
open PySem PySem.Spec PyProof.Rows
def ksTo (val : Nat → Int) (i : Nat) : List Int := ((List.range i).map val).foldl addK []
theorem ksTo_succ (val : Nat → Int) (i : Nat) : ksTo val (i + 1) = addK (ksTo val i) (val i) := by
  unfold ksTo; rw [List.range_succ, List.map_append, List.foldl_append]; rfl
theorem addK_len (ks : List Int) (k : Int) : (addK ks k).length ≤ ks.length + 1 := by unfold addK; split <;> simp
theorem ksTo_len (val : Nat → Int) : ∀ i, (ksTo val i).length ≤ i
  | 0 => Nat.le_refl _
  | i + 1 => by rw [ksTo_succ]; have := addK_len (ksTo val i) (val i); have := ksTo_len val i; omega
theorem mem_addK {ks : List Int} {k x : Int} : x ∈ addK ks k ↔ x ∈ ks ∨ x = k := by
  unfold addK; split
  · rename_i h; exact ⟨.inl, fun z => z.elim id fun e => e ▸ h⟩
  · simp
theorem ksTo_all (ns : List Int) : ksTo (fun i => ns.getD i 0) ns.length = ns.foldl addK [] := by
  have e : (List.range ns.length).map (fun i => ns.getD i 0) = ns := by
    refine List.ext_getElem (by simp) fun i h1 h2 => ?_
    simp [h2]
  unfold ksTo; rw [e]
section
variable {P : Program} {w : World} {A : Around} {R : Result → Shared → Prop} {I : Addr} {fp wr : List Addr} {G : Array GenState → Array GenState → Prop} {n : Nat} {Pv : Nat → Value → Prop} {St : Nat → Shared → Prop}
theorem setI_loop (W : WalksS P w A.in1 I fp wr G n Pv St) (S : Addr) (hSf : S ∉ fp) (val : Nat → Int) (hval : ∀ i v, Pv i v → ∃ t, v = .int (val i) t) (hb : n + 1 < scanBound) :
    ∀ (k i : Nat) (s : Shared), n - i = k → i ≤ n → St i s → SetI P w S (ksTo val i) s.heap →
      (∀ s', Moved (S :: wr) G s s' → SetI P w S (ksTo val n) s'.heap → R (.ok (.ret .none)) s') →
      codeAny (model P w) A (.builtin "set.update.loop" ⟨[.ref S, .ref I], []⟩) R s := by
  have nw : S ∉ wr := fun h => hSf (W.sub _ h)
  have sub : ∀ b ∈ wr, b ∈ S :: wr := fun b hb => List.mem_cons_of_mem _ hb
  intro k
  induction k with
  | zero =>
    intro i s hk hi st hS hR
    have e : i = n := by omega
    subst e
    refine codeAny_builtin PyProof.Rows.F.entry_set_update_loop ?_
    rw [Around.under_plainId PyProof.Rows.F.plain_set_update_loop _]
    show wpAny _ A.in1 (pyNext (.ref I) >>= _) _ _ s
    refine wpAny_bind (W.done s _ _ st fun s' hm => ?_)
    show wpAny _ A.in1 (ret Value.none) _ _ s'
    exact wpAny_pure (hR s' (hm.mono sub) (hS.at fun o e => hm.heap S o nw e))
  | succ k ih =>
    intro i s hk hi st hS hR
    have lt : i < n := by omega
    refine codeAny_builtin PyProof.Rows.F.entry_set_update_loop ?_
    rw [Around.under_plainId PyProof.Rows.F.plain_set_update_loop _]
    show wpAny _ A.in1 (pyNext (.ref I) >>= _) _ _ s
    refine wpAny_bind (W.item i s _ _ lt st fun v s' hP st' hm => ?_)
    obtain ⟨t, rfl⟩ := hval i v hP
    have hS1 : SetI P w S (ksTo val i) s'.heap := hS.at fun o e => hm.heap S o nw e
    show wpAny _ A.in1 (holding [Value.int (val i) t] (setAdd S (.int (val i) t)) >>= _) _ _ s'
    refine wpAny_bind (wpAny_holding ?_)
    unfold setAdd
    refine wpAny_holding ?_
    refine wpAny_bind ((intKind P w).pyHash (k := val i) (intKind_is _ _ _ _) ?_)
    have room : (ksTo val i).length + 1 < scanBound := by have := ksTo_len val i; omega
    refine setI_add (s := { s' with toks := s'.toks + 1 }) hS1 room fun b h' sb S2 => ?_
    rw [← ksTo_succ] at S2
    refine wpAny_pure ⟨plainId_quiet PyProof.Rows.F.plain_set_update_loop _, ih (i + 1) _ (by omega) lt (W.frame _ s' _ _ st' (Nat.le_succ _) fun c hc o e => ?_) S2 fun s'' hm2 S3 => ?_⟩
    · rw [sb.2 c (fun h : c = S => hSf (by rw [← h]; exact hc))]; exact e
    · refine hR s'' (Moved.trans W.gtrans ((hm.mono sub).then_heap (Nat.le_succ _) fun c o hc e => ?_) hm2) S3
      rw [sb.2 c (fun h : c = S => hc (by rw [h]; exact List.mem_cons_self))]; exact e
end
def newSetO (w : World) : Obj := { cls := .type "set", dict := none, data := .set #[] 0 (.fresh 0 0 (!w.params.followText "set-order")) }
theorem setI_new {P : Program} {w : World} {h : Heap} {a : Addr} (e : h.get? a = some (newSetO w)) : SetI P w a [] h :=
  ⟨_, #[], 0, _, e, ⟨rfl, rfl, rfl⟩, rfl, fun e he => by simp at he, by decide, by rfl, Tk.fresh, [], .refl _, .nil⟩
section
variable {P : Program} {w : World} {A : Around} {E : Value → Shared → Prop} {s : Shared}
theorem code_newSetO (x : Value) {Q : Value → Shared → Prop} (h : Q (.ref s.heap.objs.size) { s with heap := s.heap.push (newSetO w) }) :
    codeAny (model P w) A (.call (.builtin "set.__new__") ⟨[.type "set", x], []⟩) (wants Q E) s := by
  refine codeAny_of_tree ?_
  show wpAny _ A.in1 (do checkBuiltinCall "set.__new__" ⟨[.type "set", x], []⟩; again (.builtin "set.__new__" ⟨[.type "set", x], []⟩)) _ _ s
  refine wpAny_bind (wpAny_of_eq (PySem.F.newCall_set_1 x) (wpAny_pure ⟨plainId_quiet F.plain_set_new _, codeAny_builtin F.entry_set_new ?_⟩))
  rw [Around.under_plainId F.plain_set_new _]
  unfold Builtin.«set.__new__» Builtin.Frozenset.newClass
  have hsub := sub_set_self
  obtain ⟨hp, g, d, tk, os⟩ := s
  dsimp only
  wp_walk
  refine wpAny_askSetting (wpAny_pure ?_)
  dsimp only
  simp only [newObj]
  refine wpAny_bind (wpAny_alloc (wpAny_pure ?_))
  exact wpAny_pure h
set_option maxHeartbeats 3200000 in
theorem call_setI {l : Addr} {items : Array Value} {ns : List Int} {Q : Value → Shared → Prop}
    (hh : A.handled = none) (hl : s.heap.IsList l items) (hi : IntsAre items.toList ns) (hb : items.size + 1 < scanBound)
    (h : ∀ (h' : Heap) (tk : Nat), SetI P w s.heap.objs.size (ns.foldl addK []) h' → (∀ b o, b < s.heap.objs.size → s.heap.get? b = some o → h'.get? b = some o) → Q (.ref s.heap.objs.size) { s with heap := h', toks := tk }) :
    wpAny (model P w) A (call (.type "set") [.ref l]) Q E s := by
  have hns : items.size = ns.length := by have := hi.length; rwa [Array.length_toList] at this
  obtain ⟨c, tl, hmro⟩ := F.called_set.mro
  have hmade := F.called_set.made
  have hsub := F.called_set.sub
  refine wpAny_call (codeAny_of_tree ?_)
  show wpAny _ _ (callAny (.type "set") _) _ _ _
  refine wpAny_pure ⟨Code.quiet_builtin _ (by decide +kernel), codeAny_builtin F.entry_type_call ?_⟩
  rw [Around.under_plain (weight_type_call_type "set" [.ref l] []) rfl]
  have h1 := F.called_set.notType
  have h2 := F.called_set.canCreate
  have hct := PySem.F.typeCall_set_1 (.ref l)
  repeat (any_goals (first | assumption | wp_step))
  refine codeAny_mono (code_newSetO (.ref l) (E := E) (Q := fun obj s1 => obj = .ref s.heap.objs.size ∧ s1 = { s with heap := s.heap.push (newSetO w) }) ⟨rfl, rfl⟩) fun r s1 hr => ?_
  cases r with
  | error e => exact hr
  | ok fl =>
    cases fl with
    | ret obj =>
      obtain ⟨rfl, rfl⟩ := hr
      have hS : (s.heap.push (newSetO w)).get? s.heap.objs.size = some (newSetO w) := Heap.get?_push_size _ rfl
      have hT : Shared.TypeIs { s with heap := s.heap.push (newSetO w) } (.ref s.heap.objs.size) "set" := ⟨_, hS, rfl⟩
      have hli := F.called_set.init.lookup
      have hbi := F.called_set.init.bind (.ref s.heap.objs.size)
      repeat (any_goals (first | assumption | wp_step))
      refine codeAny_mono (codeAny_call_builtin (R := wants (fun r s2 => r = .none ∧ ∃ h' tk, s2 = { s with heap := h', toks := tk } ∧ SetI P w s.heap.objs.size (ns.foldl addK []) h' ∧
          (∀ b o, b < s.heap.objs.size → s.heap.get? b = some o → h'.get? b = some o)) E) F.called_set.init.plain F.entry_set_init (check_set_init_1 hT ?_)) fun r2 s2 hr2 => ?_
      · obtain ⟨ol, hol, hcl, nl, hdl⟩ := hl
        obtain ⟨ocls, odict, odata, oslots⟩ := ol
        simp only at hcl hdl
        subst hcl; subst hdl
        have hol' : (s.heap.push (newSetO w)).get? l = some { cls := .type "list", dict := odict, data := .seq items nl, slots := oslots } := Heap.get?_push_of_some _ hol
        have hsls := PySem.F.sub_list_set
        have hslf := PySem.F.sub_list_frozenset
        have hne : (Value.type "list" == Value.type "dict") = false := by decide
        have hl1 : (s.heap.push (newSetO w)).IsList l items := ⟨_, hol', rfl, nl, rfl⟩
        unfold Builtin.«set.__init__» noKeywords Builtin.Frozenset.updateFrom
        generalize hPI : pyIter = PI
        wp_walk
        subst hPI
        refine wpAny_pyIter_list hl1 ?_
        refine wpAny_bind (wpAny_runValue ?_)
        have hlS : l < s.heap.objs.size := Heap.lt_size hol
        have hh3 : A.in1.in1.in1.handled = none := by simp [hh]
        have hneI : l ≠ (s.heap.push (newSetO w)).objs.size := by
          rw [Heap.size_push]; exact Nat.ne_of_lt (Nat.lt_succ_of_lt hlS)
        have hSf : s.heap.objs.size ∉ [(s.heap.push (newSetO w)).objs.size, l] := by
          rw [Heap.size_push]; simp only [List.mem_cons, List.mem_singleton, List.not_mem_nil, or_false, not_or]
          exact ⟨Nat.ne_of_lt (Nat.lt_succ_self _), Nat.ne_of_gt hlS⟩
        have hval : ∀ (i : Nat) (v : Value), items[i]? = some v → ∃ t, v = .int ((fun i => ns.getD i 0) i) t := fun i v hv =>
          PyProof.Rows.IntsAre.int_at hi i v (by rw [Array.getElem?_toList]; exact hv)
        refine setI_loop ((Walks.list hh3 _ l hneI items).toS) s.heap.objs.size hSf (fun i => ns.getD i 0) hval hb (items.size - 0) 0 _ (by omega) (Nat.zero_le _)
          ⟨⟨_, Heap.get?_push_size _ rfl, rfl, rfl⟩, (hl1.push _)⟩ (setI_new (Heap.get?_push_of_some _ hS)) ?hR
        case hR =>
          intro s' hm hS'
          rw [hns, ksTo_all] at hS'
          obtain ⟨h', g', d', tk', os'⟩ := s'
          have eg : g' = s.gens := hm.gens
          have ed : d' = s.drawn := hm.drawn
          have eo : os' = s.os := hm.os
          subst eg; subst ed; subst eo
          show wpAny _ _ _ _ _ _
          refine wpAny_pure ?_
          show wpAny _ _ (ret Value.none) _ _ _
          refine wpAny_pure ⟨rfl, h', tk', rfl, hS', fun b o hb e => ?_⟩
          have n1 : b ≠ s.heap.objs.size := Nat.ne_of_lt hb
          have n2 : b ≠ (s.heap.push (newSetO w)).objs.size := by
            rw [Heap.size_push]; exact Nat.ne_of_lt (Nat.lt_succ_of_lt hb)
          exact hm.heap b o (by simp only [List.mem_cons, List.mem_singleton, List.not_mem_nil, or_false, not_or]; exact ⟨n1, n2⟩) (Heap.get?_push_of_some _ (Heap.get?_push_of_some _ e))
      · cases r2 with
        | error e => exact hr2
        | ok fl2 =>
          cases fl2 with
          | ret r =>
            obtain ⟨rfl, h', tk, rfl, hS', hk'⟩ := hr2
            repeat (any_goals (first | assumption | wp_step))
            exact h _ _ hS' hk'
          | _ => exact hr2.elim
    | _ => exact hr.elim
end
end DL
namespace DL
open PySem PySem.Spec PyProof.Rows
section
variable {P : Program} {w : World} {A : Around} {E : Value → Shared → Prop} {s : Shared} {a it : Addr}
def SIt (h : Heap) (it a : Addr) (f : Value) (i n ep : Nat) : Prop :=
  ∃ o, h.get? it = some o ∧ o.cls = .type "set_iterator" ∧ o.data = .fields #[f, .int i 0, .ref a, .int n 0, .int ep 0]
theorem SIt.typeIs {f : Value} {i n ep : Nat} (x : SIt s.heap it a f i n ep) : s.TypeIs (.ref it) "set_iterator" := let ⟨o, ho, hc, _⟩ := x; ⟨o, ho, hc⟩
theorem SIt.at {h h' : Heap} {f : Value} {i n ep : Nat} (x : SIt h it a f i n ep) (k : ∀ o, h.get? it = some o → h'.get? it = some o) : SIt h' it a f i n ep := let ⟨o, ho, r⟩ := x; ⟨o, k o ho, r⟩
def SOb (h : Heap) (a : Addr) (es : Array (Int × Value)) (ep : Nat) (t : SetTable) : Prop := ∃ o, h.get? a = some o ∧ o.ExactSet ∧ o.data = .set es ep t ∧ t.fits es.size = true
theorem SOb.at {h h' : Heap} {es : Array (Int × Value)} {ep : Nat} {t : SetTable} (x : SOb h a es ep t) (k : ∀ o, h.get? a = some o → h'.get? a = some o) : SOb h' a es ep t := let ⟨o, ho, r⟩ := x; ⟨o, k o ho, r⟩
end
end DL
namespace DL
open PySem PySem.Spec PyProof.Rows
section
variable {P : Program} {w : World} {A : Around} {E : Value → Shared → Prop} {s : Shared} {a it : Addr}
end
end DL
namespace DL
open PySem PySem.Spec PyProof.Rows
section
variable {P : Program} {w : World} {A : Around} {E : Value → Shared → Prop} {s : Shared} {a : Addr}
end
end DL
namespace DL
open PySem PySem.Spec PyProof.Rows
section
variable {P : Program} {w : World} {A : Around} {E : Value → Shared → Prop} {s : Shared} {a : Addr}
end
end DL
namespace DL
open PySem PySem.Spec PyProof.Rows L2
section
variable {prog : Program} {w : World} {A : Around} {E : Value → Shared → Prop} {s : Shared}
end
section
variable {X : Cx} {a b c d : Expr} {t : TAd} {pos : Pos}
end
end DL
namespace Sp
def ab (i : Int) : Int := if i < 0 then -i else i
def mx (i j : Int) : Int := if j > i then j else i
def ring (x y : Int) : Int := mx (ab x) (ab y)
def po (x y : Int) : Int :=
  if y = -(ring x y) then 4 * (ring x y) * (ring x y) + 3 * (ring x y) + x
  else if x = -(ring x y) then 4 * (ring x y) * (ring x y) + (ring x y) - y
  else if y = ring x y then 4 * (ring x y) * (ring x y) - (ring x y) - x
  else 4 * (ring x y) * (ring x y) - 3 * (ring x y) + y
theorem ring_cases (x y : Int) : 0 ≤ ring x y ∧ x ≤ ring x y ∧ -x ≤ ring x y ∧ y ≤ ring x y ∧ -y ≤ ring x y ∧ (x = ring x y ∨ -x = ring x y ∨ y = ring x y ∨ -y = ring x y) := by
  unfold ring mx ab
  repeat' split
  all_goals omega
theorem po_sides (x y : Int) : ∃ k, ring x y = k ∧ 0 ≤ k ∧
    ((y = -k ∧ -k ≤ x ∧ x ≤ k ∧ po x y = 4 * k * k + 3 * k + x) ∨ (x = -k ∧ -k < y ∧ y ≤ k ∧ po x y = 4 * k * k + k - y) ∨ (y = k ∧ -k < x ∧ x ≤ k ∧ po x y = 4 * k * k - k - x) ∨ (x = k ∧ -k < y ∧ y < k ∧ po x y = 4 * k * k - 3 * k + y)) := by
  obtain ⟨h0, h1, h2, h3, h4, h5⟩ := ring_cases x y
  refine ⟨ring x y, rfl, h0, ?_⟩
  unfold po
  generalize ring x y = k at *
  by_cases a : y = -k
  · left; rw [if_pos a]; exact ⟨a, by omega, by omega, rfl⟩
  · rw [if_neg a]
    by_cases b : x = -k
    · right; left; rw [if_pos b]; exact ⟨b, by omega, by omega, rfl⟩
    · rw [if_neg b]
      by_cases c : y = k
      · right; right; left; rw [if_pos c]; exact ⟨c, by omega, by omega, rfl⟩
      · right; right; right; rw [if_neg c]; exact ⟨by omega, by omega, by omega, rfl⟩
theorem po_bounds (x y : Int) : 0 ≤ po x y ∧ 4 * ring x y * ring x y - 4 * ring x y ≤ po x y ∧ po x y ≤ 4 * ring x y * ring x y + 4 * ring x y ∧ (0 < ring x y → 4 * ring x y * ring x y - 4 * ring x y < po x y) := by
  obtain ⟨k, e, h0, h⟩ := po_sides x y
  rw [e]
  have hk : 0 ≤ 4 * k * k - 4 * k := by
    rcases Int.lt_or_le 0 k with hp | hp
    · have : 4 * k * 1 ≤ 4 * k * k := Int.mul_le_mul_of_nonneg_left (by omega) (by omega)
      omega
    · have : k = 0 := by omega
      subst this; decide
  rcases h with ⟨_, _, _, h⟩ | ⟨_, _, _, h⟩ | ⟨_, _, _, h⟩ | ⟨_, _, _, h⟩ <;> rw [h] <;> refine ⟨by omega, by omega, by omega, fun _ => by omega⟩
theorem ring_inj {x y x' y' : Int} (e : po x y = po x' y') : ring x y = ring x' y' := by
  have key : ∀ j k : Int, 0 ≤ j → 0 ≤ k → ∀ n, n ≤ 4 * j * j + 4 * j → (0 < k → 4 * k * k - 4 * k < n) → k ≤ j := by
    intro j k hj hk n h1 h2
    rcases Int.lt_or_le j k with h | h
    · exfalso
      have h2 := h2 (by omega)
      have hm : 4 * (j + 1) * j ≤ 4 * k * (k - 1) := by
        have a1 : 4 * (j + 1) * j ≤ 4 * k * j := Int.mul_le_mul_of_nonneg_right (by omega) hj
        have a2 : 4 * k * j ≤ 4 * k * (k - 1) := Int.mul_le_mul_of_nonneg_left (by omega) (by omega)
        omega
      have e1 : 4 * (j + 1) * j = 4 * j * j + 4 * j := by rw [Int.mul_add, Int.add_mul]; simp
      have e2 : 4 * k * (k - 1) = 4 * k * k - 4 * k := by rw [Int.mul_sub]; simp
      omega
    · exact h
  obtain ⟨_, _, b1, b2⟩ := po_bounds x y
  obtain ⟨_, _, c1, c2⟩ := po_bounds x' y'
  have r1 := (ring_cases x y).1
  have r2 := (ring_cases x' y').1
  exact Int.le_antisymm (key _ _ r2 r1 _ (by rw [e]; exact c1) b2) (key _ _ r1 r2 _ (by rw [← e]; exact b1) c2)
theorem po_inj {x y x' y' : Int} (e : po x y = po x' y') : x = x' ∧ y = y' := by
  have er := ring_inj e
  obtain ⟨k, e1, h0, h⟩ := po_sides x y
  obtain ⟨k', e2, h0', h'⟩ := po_sides x' y'
  have : k' = k := by rw [← e1, ← e2, er]
  subst this
  rcases h with ⟨_, _, _, h⟩ | ⟨_, _, _, h⟩ | ⟨_, _, _, h⟩ | ⟨_, _, _, h⟩ <;> rcases h' with ⟨_, _, _, h'⟩ | ⟨_, _, _, h'⟩ | ⟨_, _, _, h'⟩ | ⟨_, _, _, h'⟩ <;> rw [h, h'] at e <;> omega
theorem po_of {x y k : Int} (hk : 0 ≤ k) (h : (y = -k ∧ -k ≤ x ∧ x ≤ k) ∨ (x = -k ∧ -k < y ∧ y ≤ k) ∨ (y = k ∧ -k < x ∧ x ≤ k) ∨ (x = k ∧ -k < y ∧ y < k)) :
    ring x y = k ∧ po x y = (if y = -k then 4 * k * k + 3 * k + x else if x = -k then 4 * k * k + k - y else if y = k then 4 * k * k - k - x else 4 * k * k - 3 * k + y) := by
  have er : ring x y = k := by
    obtain ⟨h0, h1, h2, h3, h4, h5⟩ := ring_cases x y
    omega
  refine ⟨er, ?_⟩
  unfold po
  rw [er]
end Sp
namespace Sp
def IsRoot (n r : Int) : Prop := 0 ≤ r ∧ r * r ≤ n ∧ n < (r + 1) * (r + 1)
def ppx (n k : Int) : Int := if n - 4 * k * k > 2 * k then n - 4 * k * k - 3 * k else if n - 4 * k * k > 0 then -k else if n - 4 * k * k > -2 * k then -k - (n - 4 * k * k) else k
def ppy (n k : Int) : Int := if n - 4 * k * k > 2 * k then -k else if n - 4 * k * k > 0 then k - (n - 4 * k * k) else if n - 4 * k * k > -2 * k then k else n - 4 * k * k + 3 * k
theorem ring_of_root {n r : Int} (h : IsRoot n r) : 0 ≤ (r + 1) / 2 ∧ -4 * ((r + 1) / 2) ≤ n - 4 * ((r + 1) / 2) * ((r + 1) / 2) ∧ (0 < (r + 1) / 2 → -4 * ((r + 1) / 2) < n - 4 * ((r + 1) / 2) * ((r + 1) / 2)) ∧ n - 4 * ((r + 1) / 2) * ((r + 1) / 2) ≤ 4 * ((r + 1) / 2) := by
  obtain ⟨h0, h1, h2⟩ := h
  have e2 : (r + 1) * (r + 1) = r * r + 2 * r + 1 := by rw [Int.mul_add, Int.add_mul]; omega
  rw [e2] at h2
  rcases Int.emod_two_eq r with e | e
  · obtain ⟨k, rfl⟩ : ∃ k, r = 2 * k := ⟨r / 2, by omega⟩
    have ek : (2 * k + 1) / 2 = k := by omega
    rw [ek]
    have e4 : 2 * k * (2 * k) = 4 * k * k := by rw [Int.mul_assoc, Int.mul_left_comm k 2 k, ← Int.mul_assoc, ← Int.mul_assoc]; rfl
    rw [e4] at h1 h2
    refine ⟨by omega, by omega, fun _ => by omega, by omega⟩
  · obtain ⟨k, rfl⟩ : ∃ k, r = 2 * k - 1 := ⟨(r + 1) / 2, by omega⟩
    have ek : (2 * k - 1 + 1) / 2 = k := by omega
    rw [ek]
    have e4 : (2 * k - 1) * (2 * k - 1) = 4 * k * k - 4 * k + 1 := by
      rw [Int.mul_sub, Int.sub_mul, Int.mul_assoc, Int.mul_left_comm k 2 k, ← Int.mul_assoc, ← Int.mul_assoc]; simp; omega
    rw [e4] at h1 h2
    refine ⟨by omega, by omega, fun _ => by omega, by omega⟩
theorem pp_ok {n r : Int} (h : IsRoot n r) : po (ppx n ((r + 1) / 2)) (ppy n ((r + 1) / 2)) = n := by
  obtain ⟨h0, h1, h2, h3⟩ := ring_of_root h
  generalize (r + 1) / 2 = k at *
  unfold ppx ppy
  generalize hp : n - 4 * k * k = p at *
  have hn : n = 4 * k * k + p := by omega
  by_cases a : p > 2 * k
  · rw [if_pos a, if_pos a]
    obtain ⟨_, e⟩ := po_of (x := p - 3 * k) (y := -k) h0 (.inl ⟨rfl, by omega, by omega⟩)
    rw [e, if_pos rfl]; omega
  · rw [if_neg a, if_neg a]
    by_cases b : p > 0
    · rw [if_pos b, if_pos b]
      obtain ⟨_, e⟩ := po_of (x := -k) (y := k - p) h0 (by omega)
      rw [e]
      split
      · omega
      · rw [if_pos rfl]; omega
    · rw [if_neg b, if_neg b]
      by_cases c : p > -2 * k
      · rw [if_pos c, if_pos c]
        obtain ⟨_, e⟩ := po_of (x := -k - p) (y := k) h0 (by omega)
        rw [e]
        split
        · omega
        · split
          · omega
          · rw [if_pos rfl]; omega
      · rw [if_neg c, if_neg c]
        obtain ⟨_, e⟩ := po_of (x := k) (y := p + 3 * k) h0 (by omega)
        rw [e]
        split
        · omega
        · split
          · omega
          · split
            · omega
            · omega
theorem root_unique {n r r' : Int} (h : IsRoot n r) (h' : IsRoot n r') : r = r' := by
  have key : ∀ a b : Int, IsRoot n a → IsRoot n b → a ≤ b := by
    intro a b ⟨a0, a1, _⟩ ⟨b0, _, b2⟩
    rcases Int.lt_or_le b a with l | l
    · exfalso
      have : (b + 1) * (b + 1) ≤ a * a := Int.mul_le_mul (by omega) (by omega) (by omega) a0
      omega
    · exact l
  exact Int.le_antisymm (key _ _ h h') (key _ _ h' h)
def rotx (q : Nat) (x y : Int) : Int := if q = 1 then -y else if q = 2 then -x else if q = 3 then y else x
def roty (q : Nat) (x y : Int) : Int := if q = 1 then x else if q = 2 then -y else if q = 3 then -x else y
def mir (r : Bool) (y : Int) : Int := if r then -y else y
def tpx (q : Nat) (r : Bool) (x y : Int) : Int := rotx ((4 - q) % 4) x y
def tpy (q : Nat) (r : Bool) (x y : Int) : Int := mir r (roty ((4 - q) % 4) x y)
def fpx (q : Nat) (r : Bool) (u v : Int) : Int := rotx q u (mir r v)
def fpy (q : Nat) (r : Bool) (u v : Int) : Int := roty q u (mir r v)
theorem tp_fp {q : Nat} (hq : q < 4) (r : Bool) (u v : Int) : tpx q r (fpx q r u v) (fpy q r u v) = u ∧ tpy q r (fpx q r u v) (fpy q r u v) = v := by
  rcases (show q = 0 ∨ q = 1 ∨ q = 2 ∨ q = 3 by omega) with rfl | rfl | rfl | rfl <;> cases r <;> simp [tpx, tpy, fpx, fpy, rotx, roty, mir]
theorem fp_tp {q : Nat} (hq : q < 4) (r : Bool) (x y : Int) : fpx q r (tpx q r x y) (tpy q r x y) = x ∧ fpy q r (tpx q r x y) (tpy q r x y) = y := by
  rcases (show q = 0 ∨ q = 1 ∨ q = 2 ∨ q = 3 by omega) with rfl | rfl | rfl | rfl <;> cases r <;> simp [tpx, tpy, fpx, fpy, rotx, roty, mir]
def at' (q : Nat) (r : Bool) (x y : Int) : Int := po (tpx q r x y) (tpy q r x y)
theorem at_inj {q : Nat} (hq : q < 4) {r : Bool} {x y x' y' : Int} (e : at' q r x y = at' q r x' y') : x = x' ∧ y = y' := by
  obtain ⟨h1, h2⟩ := po_inj e
  have a := fp_tp hq r x y
  have b := fp_tp hq r x' y'
  rw [h1, h2] at a
  exact ⟨a.1.symm.trans b.1, a.2.symm.trans b.2⟩
theorem at_fp {q : Nat} (hq : q < 4) (r : Bool) (u v : Int) : at' q r (fpx q r u v) (fpy q r u v) = po u v := by
  obtain ⟨h1, h2⟩ := tp_fp hq r u v
  unfold at'; rw [h1, h2]
theorem at_nonneg (q : Nat) (r : Bool) (x y : Int) : 0 ≤ at' q r x y := (po_bounds _ _).1
theorem ring_at {q : Nat} (hq : q < 4) (r : Bool) (x y : Int) : ring (tpx q r x y) (tpy q r x y) = ring x y := by
  rcases (show q = 0 ∨ q = 1 ∨ q = 2 ∨ q = 3 by omega) with rfl | rfl | rfl | rfl <;> cases r <;> simp only [tpx, tpy, rotx, roty, mir, ring, mx, ab] <;> simp <;> repeat' split
  all_goals omega
theorem tp_bound {q : Nat} (hq : q < 4) (r : Bool) (x y : Int) : (tpx q r x y = x ∨ tpx q r x y = -x ∨ tpx q r x y = y ∨ tpx q r x y = -y) ∧ (tpy q r x y = x ∨ tpy q r x y = -x ∨ tpy q r x y = y ∨ tpy q r x y = -y) := by
  rcases (show q = 0 ∨ q = 1 ∨ q = 2 ∨ q = 3 by omega) with rfl | rfl | rfl | rfl <;> cases r <;> simp [tpx, tpy, rotx, roty, mir]
theorem newton {n r : Int} (hn : 0 < n) (hr : 1 ≤ r) (h : n < (r + 1) * (r + 1) := by assumption) : 1 ≤ (r + n / r) / 2 ∧ n < ((r + n / r) / 2 + 1) * ((r + n / r) / 2 + 1) := by
  have h1 : n < r * (n / r + 1) := by
    have := Int.lt_mul_ediv_self_add (x := n) (k := r) (by omega)
    rw [Int.mul_add]; omega
  have q0 : 0 ≤ n / r := Int.ediv_nonneg (by omega) (by omega)
  generalize n / r = t at *
  have hb : r + t + 1 ≤ 2 * ((r + t) / 2 + 1) := by omega
  have hb1 : 1 ≤ (r + t) / 2 := by
    rcases Int.lt_or_le r 2 with h2 | h2
    · have : r = 1 := by omega
      subst this
      omega
    · omega
  generalize (r + t) / 2 = b at *
  refine ⟨hb1, ?_⟩
  have a1 : (r + t + 1) * (r + t + 1) ≤ (2 * (b + 1)) * (2 * (b + 1)) := Int.mul_le_mul hb hb (by omega) (by omega)
  have a2 : 4 * (r * (t + 1)) ≤ (r + t + 1) * (r + t + 1) := by
    have sq : 0 ≤ (r - (t + 1)) * (r - (t + 1)) := by
      rcases Int.le_total 0 (r - (t + 1)) with h | h
      · exact Int.mul_nonneg h h
      · exact Int.mul_nonneg_of_nonpos_of_nonpos h h
    have g1 : ∀ u : Int, (r - u) * (r - u) = r * r - 2 * (r * u) + u * u := fun u => by
      rw [Int.sub_mul, Int.mul_sub, Int.mul_sub, Int.mul_comm u r]; omega
    have g2 : ∀ u : Int, (r + u) * (r + u) = r * r + 2 * (r * u) + u * u := fun u => by
      rw [Int.add_mul, Int.mul_add, Int.mul_add, Int.mul_comm u r]; omega
    have e1 := g1 (t + 1)
    have e2 := g2 (t + 1)
    rw [← Int.add_assoc] at e2
    omega
  have e3 : (2 * (b + 1)) * (2 * (b + 1)) = 4 * ((b + 1) * (b + 1)) := by
    rw [Int.mul_assoc, Int.mul_left_comm (b + 1) 2, ← Int.mul_assoc]; rfl
  omega
theorem po_near {x y : Int} (h : po x y < 2 ^ 118) : ring x y < 2 ^ 59 := by
  obtain ⟨_, b, _, _⟩ := po_bounds x y
  have h0 := (ring_cases x y).1
  generalize ring x y = k at *
  rcases Int.lt_or_le k (2 ^ 59) with l | l
  · exact l
  · exfalso
    have : 4 * 2 ^ 59 * k ≤ 4 * k * k := Int.mul_le_mul (by omega) (Int.le_refl _) (by omega) (by omega)
    omega
theorem at_near {q : Nat} (hq : q < 4) {r : Bool} {x y : Int} (h : at' q r x y < 2 ^ 118) : ring x y < 2 ^ 59 ∧ -(2 ^ 59) < x ∧ x < 2 ^ 59 ∧ -(2 ^ 59) < y ∧ y < 2 ^ 59 := by
  have a := po_near h
  rw [ring_at hq] at a
  have b := ring_cases x y
  omega
end Sp
namespace K
open PySem L2 DL Sp
abbrev I (i : Int) : Dv := .d (.int i)
abbrev pr (x y : Int) : Dv := .d (.tuple [.int x, .int y])
def hdS (q : Nat) : Str := if q = 0 then "e" else if q = 1 then "n" else if q = 2 then "w" else "s"
def tnS (r : Bool) : Str := if r then "r" else "l"
abbrev spi (s : Int) (q : Nat) (r : Bool) : Dv := .d (.tuple [.int s, .str (hdS q), .str (tnS r)])
theorem idx_hd {q : Nat} (hq : q < 4) : idxD (.str (hdS q)) [.str "e", .str "n", .str "w", .str "s"] = some q := by
  rcases (show q = 0 ∨ q = 1 ∨ q = 2 ∨ q = 3 by omega) with rfl | rfl | rfl | rfl <;> decide +kernel
theorem eqv_tn (r : Bool) : PyData.eqv (.str (tnS r)) (.str "r") = r := by cases r <;> decide +kernel
theorem shaped_hd (q : Nat) : SeqAt.shaped (.str (hdS q)) = true := by
  unfold hdS; repeat' split
  all_goals decide +kernel
theorem shaped_tn (r : Bool) : SeqAt.shaped (.str (tnS r)) = true := by cases r <;> decide +kernel
theorem shaped_int (i : Int) : SeqAt.shaped (.int i) = true := rfl
theorem shaped_r : SeqAt.shaped (.str "r") = true := by decide +kernel
theorem eqv_int (i j : Int) : PyData.eqv (.int i) (.int j) = decide (i = j) := by unfold PyData.eqv; by_cases h : i = j <;> simp [h]
def F_offset_of : FD := fun ds m Q => ∃ s q r n, ds = [spi s q r, I n] ∧ s ≤ n ∧ Q (I (n - s)) m
def F_whole_root : FD := fun ds m Q => ∃ n, ds = [I n] ∧ 0 ≤ n ∧ n < 2 ^ 130 ∧ ∀ r, IsRoot n r → Q (I r) m
def F_plain_ring : FD := fun ds m Q => ∃ n, ds = [I n] ∧ 0 ≤ n ∧ n < 2 ^ 120 ∧ ∀ r, IsRoot n r → Q (I ((r + 1) / 2)) m
def F_plain_place : FD := fun ds m Q => ∃ n, ds = [I n] ∧ 0 ≤ n ∧ n < 2 ^ 120 ∧ ∀ x y, po x y = n → Q (pr x y) m
def F_plain_offset : FD := fun ds m Q => ∃ x y, ds = [pr x y] ∧ (-(2 ^ 61) < x ∧ x < 2 ^ 61 ∧ -(2 ^ 61) < y ∧ y < 2 ^ 61) ∧ Q (I (po x y)) m
def F_quarters_of : FD := fun ds m Q => ∃ q, ds = [.d (.str (hdS q))] ∧ q < 4 ∧ Q (I (q : Nat)) m
def F_turned_left : FD := fun ds m Q => ∃ x y, ∃ q : Nat, ds = [pr x y, I q] ∧ Q (pr (rotx q x y) (roty q x y)) m
def F_mirrored_by : FD := fun ds m Q => ∃ r x y, ds = [.d (.str (tnS r)), pr x y] ∧ Q (pr x (mir r y)) m
def F_from_plain : FD := fun ds m Q => ∃ s q r x y, ds = [spi s q r, pr x y] ∧ q < 4 ∧ Q (pr (fpx q r x y) (fpy q r x y)) m
def F_to_plain : FD := fun ds m Q => ∃ s q r x y, ds = [spi s q r, pr x y] ∧ q < 4 ∧ Q (pr (tpx q r x y) (tpy q r x y)) m
def F_place_of : FD := fun ds m Q => ∃ s q r n, ds = [spi s q r, I n] ∧ q < 4 ∧ (s ≤ n ∧ n - s < 2 ^ 120) ∧ ∀ x y, at' q r x y = n - s → Q (pr x y) m
def F_number_at : FD := fun ds m Q => ∃ s q r x y, ds = [spi s q r, pr x y] ∧ q < 4 ∧ (-(2 ^ 61) < x ∧ x < 2 ^ 61 ∧ -(2 ^ 61) < y ∧ y < 2 ^ 61) ∧ Q (I (s + at' q r x y)) m
def bes (s : Int) (q : Nat) (r : Bool) (x y : Int) : List Int := [s + at' q r (x + 1) y, s + at' q r x (y + 1), s + at' q r (x + -1) y, s + at' q r x (y + -1)]
theorem mo_offset_of : MoA F_offset_of := fun _ _ _ _ h ⟨s, q, r, n, e, l, z⟩ => ⟨s, q, r, n, e, l, h _ _ z⟩
theorem mo_whole_root : MoA F_whole_root := fun _ _ _ _ h ⟨n, e, l, u, z⟩ => ⟨n, e, l, u, fun r hr => h _ _ (z r hr)⟩
theorem mo_plain_ring : MoA F_plain_ring := fun _ _ _ _ h ⟨n, e, l, u, z⟩ => ⟨n, e, l, u, fun r hr => h _ _ (z r hr)⟩
theorem mo_plain_place : MoA F_plain_place := fun _ _ _ _ h ⟨n, e, l, u, z⟩ => ⟨n, e, l, u, fun x y hr => h _ _ (z x y hr)⟩
theorem mo_plain_offset : MoA F_plain_offset := fun _ _ _ _ h ⟨x, y, e, l, z⟩ => ⟨x, y, e, l, h _ _ z⟩
theorem mo_quarters_of : MoA F_quarters_of := fun _ _ _ _ h ⟨q, e, l, z⟩ => ⟨q, e, l, h _ _ z⟩
theorem mo_turned_left : MoA F_turned_left := fun _ _ _ _ h ⟨x, y, q, e, z⟩ => ⟨x, y, q, e, h _ _ z⟩
theorem mo_mirrored_by : MoA F_mirrored_by := fun _ _ _ _ h ⟨r, x, y, e, z⟩ => ⟨r, x, y, e, h _ _ z⟩
theorem mo_from_plain : MoA F_from_plain := fun _ _ _ _ h ⟨s, q, r, x, y, e, l, z⟩ => ⟨s, q, r, x, y, e, l, h _ _ z⟩
theorem mo_to_plain : MoA F_to_plain := fun _ _ _ _ h ⟨s, q, r, x, y, e, l, z⟩ => ⟨s, q, r, x, y, e, l, h _ _ z⟩
theorem mo_place_of : MoA F_place_of := fun _ _ _ _ h ⟨s, q, r, n, e, l, b, z⟩ => ⟨s, q, r, n, e, l, b, fun x y hr => h _ _ (z x y hr)⟩
theorem mo_number_at : MoA F_number_at := fun _ _ _ _ h ⟨s, q, r, x, y, e, l, b, z⟩ => ⟨s, q, r, x, y, e, l, b, h _ _ z⟩
end K
namespace DL
open PySem L2
theorem ixN_lt {n : Nat} {i : Int} (h0 : 0 ≤ i) (h : i < n) : ixN n i = some i.toNat := by unfold ixN; rw [if_pos h0, if_pos h]
theorem atI_of {α : Type} {xs : List α} {i : Int} {k : Nat} {v : α} (e : i = k) (h : xs[k]? = some v) : atI xs i = some v := by rw [e]; exact atI_nat h
theorem at0 {α : Type} {a : α} {r : List α} : atI (a :: r) 0 = some a := atI_of (k := 0) rfl rfl
theorem at1 {α : Type} {a b : α} {r : List α} : atI (a :: b :: r) 1 = some b := atI_of (k := 1) rfl rfl
theorem at2 {α : Type} {a b c : α} {r : List α} : atI (a :: b :: c :: r) 2 = some c := atI_of (k := 2) rfl rfl
theorem at3 {α : Type} {a b c d : α} {r : List α} : atI (a :: b :: c :: d :: r) 3 = some d := atI_of (k := 3) rfl rfl
theorem at4 {α : Type} {a b c d e : α} {r : List α} : atI (a :: b :: c :: d :: e :: r) 4 = some e := atI_of (k := 4) rfl rfl
theorem ix0 {n : Nat} : ixN (n + 1) 0 = some 0 := ixN_lt (by decide) (by omega)
theorem ix1 {n : Nat} : ixN (n + 1 + 1) 1 = some 1 := ixN_lt (by decide) (by omega)
theorem ix2 {n : Nat} : ixN (n + 1 + 1 + 1) 2 = some 2 := ixN_lt (by decide) (by omega)
theorem ix3 {n : Nat} : ixN (n + 1 + 1 + 1 + 1) 3 = some 3 := ixN_lt (by decide) (by omega)
theorem ix4 {n : Nat} : ixN (n + 1 + 1 + 1 + 1 + 1) 4 = some 4 := ixN_lt (by decide) (by omega)
theorem szk {k : Nat} (h : k ≤ 16777216) : k ≤ sizeLine := by rw [sizeLine_eq]; exact h
theorem bits_ok {n : Int} (h0 : 0 < n) (h1 : n < 2 ^ 130) : (0 ≤ ((Builtin.Int.intBits n : Int) + 1) / 2 ∧ ((Builtin.Int.intBits n : Int) + 1) / 2 ≤ 66) ∧
    (n < (1 * 2 ^ (((Builtin.Int.intBits n : Int) + 1) / 2).toNat) * (1 * 2 ^ (((Builtin.Int.intBits n : Int) + 1) / 2).toNat) ∧ 1 ≤ (1 : Int) * 2 ^ (((Builtin.Int.intBits n : Int) + 1) / 2).toNat ∧ (1 : Int) * 2 ^ (((Builtin.Int.intBits n : Int) + 1) / 2).toNat < 2 ^ 100) := by
  obtain ⟨k, rfl⟩ : ∃ k : Nat, n = k := ⟨n.toNat, by omega⟩
  have hk : k ≠ 0 := by omega
  have e : Builtin.Int.intBits (k : Int) = k.log2 + 1 := by
    unfold Builtin.Int.intBits
    have : ((k : Int) == 0) = false := by simpa using hk
    rw [this]; rfl
  rw [e]
  have hlt : k < 2 ^ (k.log2 + 1) := Nat.lt_log2_self
  have hb : k.log2 < 130 := (Nat.log2_lt hk).mpr (by
    have : ((k : Nat) : Int) < ((2 ^ 130 : Nat) : Int) := by exact_mod_cast h1
    exact Int.ofNat_lt.mp this)
  generalize k.log2 = b at *
  have eB : (((b + 1 : Nat) : Int) + 1) / 2 = (((b + 2) / 2 : Nat) : Int) := by omega
  rw [eB, Int.toNat_natCast]
  generalize hB : (b + 2) / 2 = B at *
  have hB66 : B ≤ 66 := by omega
  refine ⟨⟨by omega, by omega⟩, ?_, ?_, ?_⟩
  · have h2 : k < 2 ^ B * 2 ^ B := by
      rw [← Nat.pow_add]
      exact Nat.lt_of_lt_of_le hlt (Nat.pow_le_pow_right (by decide) (by omega))
    rw [Int.one_mul]
    exact_mod_cast h2
  · have : 1 ≤ 2 ^ B := Nat.one_le_two_pow
    rw [Int.one_mul]
    exact_mod_cast this
  · have : 2 ^ B < 2 ^ 100 := Nat.pow_lt_pow_right (by decide) (by omega)
    rw [Int.one_mul]
    exact_mod_cast this
theorem lc_fm {xs : List Dv} {still : M → Prop} {m1 : M} {g : TGd} {tt : TBd} {te : TD} {vs : List Nat} {δ : Dn} {Q : QD} (f : Dv → Option PyData) (hx : xs.length ≤ 16777216) (hst : ∀ m, still m)
    (h : ∀ x ∈ xs, ∀ (m' : M) (R : QD) (S : M → Prop), (match f x with | some y => R (.d y) m' | none => S m') → g x (wipeD δ vs) m' fun δ2 m2 => tt δ2 m2 fun b m3 => if b = true then te δ2 m3 R else S m3)
    (q : Q (.d (.list (xs.filterMap f))) m1) :
    xs.length ≤ 16777216 ∧ ∀ D, m1 D = none → ∃ Pv : Nat → List PyData → M → Prop, Pv 0 [] m1 ∧
      (∀ i acc m, Pv i acc m → m D = none ∧ still (setM m D (.lst (acc.map .d)))) ∧
      (∀ i x acc m, xs[i]? = some x → Pv i acc m → g x (wipeD δ vs) (setM m D (.lst (acc.map .d))) fun δ2 m2 => tt δ2 m2 fun b m3 => if b = true then te δ2 m3 fun y m4 => ∃ z, y = .d z ∧ m4 D = some (.lst (acc.map .d)) ∧ Pv (i + 1) (acc ++ [z]) (delM m4 D)
        else m3 D = some (.lst (acc.map .d)) ∧ Pv (i + 1) acc (delM m3 D)) ∧ ∀ acc m, Pv xs.length acc m → Q (.d (.list acc)) m := by
  refine ⟨hx, fun D hD => ⟨fun i acc m => m = m1 ∧ acc = (xs.take i).filterMap f, ⟨rfl, rfl⟩, fun i acc m ⟨e, _⟩ => ⟨by rw [e]; exact hD, hst _⟩, ?_, ?_⟩⟩
  · rintro i x acc m hxi ⟨rfl, rfl⟩
    have ht : (xs.take (i + 1)).filterMap f = (xs.take i).filterMap f ++ (match f x with | some y => [y] | none => []) := by
      rw [List.take_succ, hxi, List.filterMap_append]
      congr 1
      simp only [Option.toList, List.filterMap_cons, List.filterMap_nil]
      cases f x <;> rfl
    refine h x (List.mem_of_getElem? hxi) _ _ _ ?_
    cases e : f x with
    | some y =>
      rw [e] at ht
      exact ⟨y, rfl, setM_same, delM_setM hD, ht.symm⟩
    | none =>
      rw [e] at ht
      exact ⟨setM_same, delM_setM hD, by rw [ht]; simp⟩
  · rintro acc m ⟨rfl, rfl⟩
    rw [List.take_length]
    exact q
theorem dLc_fm {w : TId} {g : TGd} {tt : TBd} {te : TD} {vs : List Nat} {δ : Dn} {m : M} {Q : QD} (f : Dv → Option PyData) (xs : List Dv) (hw : ∀ R : List Dv → (M → Prop) → M → Prop, R xs (fun _ => True) m → w δ m R) (hx : xs.length ≤ 16777216)
    (h : ∀ x ∈ xs, ∀ (m' : M) (R : QD) (S : M → Prop), (match f x with | some y => R (.d y) m' | none => S m') → g x (wipeD δ vs) m' fun δ2 m2 => tt δ2 m2 fun b m3 => if b = true then te δ2 m3 R else S m3)
    (q : Q (.d (.list (xs.filterMap f))) m) : dLc w g tt te vs δ m Q := hw _ (lc_fm f hx (fun _ => trivial) h q)
theorem for_rng {w : TId} {g : TGd} {tb : TSd} {D : DEnds} {δ : Dn} {m : M} (n : Nat) (hw : ∀ R : List Dv → (M → Prop) → M → Prop, R ((List.range n).map fun i => .d (.int ((i : Nat) : Int))) (fun _ => True) m → w δ m R)
    (Pv : Nat → Dn → M → Prop) (h0 : Pv 0 δ m) (ht : ∀ i δ m, i < n → Pv i δ m → g (.d (.int (i : Nat))) δ m fun δ2 m2 => tb { D with nx := Pv (i + 1), ct := Pv (i + 1), bk := D.nx } δ2 m2) (hd : ∀ δ m, Pv n δ m → D.nx δ m) : sFor w g tb D δ m := by
  refine hw _ ⟨Pv, h0, fun _ _ _ _ => trivial, fun i x δ m hx p => ?_, fun δ m p => hd δ m (by simpa using p)⟩
  have hi : i < n := by have := (List.getElem?_eq_some_iff.mp hx).1; simpa using this
  rw [List.getElem?_map, List.getElem?_range hi] at hx
  cases hx
  exact ht i δ m hi p
theorem ints_dp {K : PySem.W.Frag} {I : Hp} : ∀ ns : List Int, DpAll K I (ns.map V.int) (ns.map .int)
  | [] => .nil
  | n :: ns => .cons (.int n) (ints_dp ns)
theorem relS (x : Str) (t : Tok) : RelV (.str x) (.str x t) := ⟨t, rfl⟩
end DL
namespace DL
open PySem PySem.Spec PyProof.Rows L2
theorem freeze {K : PySem.W.Frag} {H I : Hp} {m : M} {p : Addr} {xs : List PyData} (ok : Ok K H I m) (e : m p = some (.lst (xs.map .d))) : ∃ I', Same I I' ∧ Ok K H I' (delM m p) ∧ Dp K I' (.ref p) (.list xs) := by
  obtain ⟨vs, hv, al⟩ := ok.lst e
  have fI : I p = none := by
    cases h : I p with
    | none => rfl
    | some o => have := ok.dj p o h; rw [e] at this; cases this
  have sm : Same I (upd I p (.lst vs)) := same_new (H := H) fI
  refine ⟨upd I p (.lst vs), sm, ⟨fun a o h => ?_, fun a o h => ?_, fun a q h => ?_⟩, Dp.lst (SqL.of upd_same) (DpAll.same sm (dpAll_of al))⟩
  · by_cases c : a = p
    · subst c; rw [upd_same] at h; cases h; exact hv
    · rw [upd_ne c] at h; exact ok.im a o h
  · by_cases c : a = p
    · subst c; unfold delM; rw [if_pos rfl]
    · rw [upd_ne c] at h; unfold delM; rw [if_neg c]; exact ok.dj a o h
  · by_cases c : a = p
    · subst c; unfold delM at h; rw [if_pos rfl] at h; cases h
    · unfold delM at h; rw [if_neg c] at h
      obtain ⟨o, h1, h2⟩ := ok.mu a q h
      exact ⟨o, h1, h2.same sm⟩
section
variable {X : Cx} {e : Expr} {te : TD}
def dFreeze (te : TD) : TD := fun δ m Q => te δ m fun x m1 => ∃ p xs, x = .r p ∧ m1 p = some (.lst (xs.map .d)) ∧ Q (.d (.list xs)) (delM m1 p)
end
end DL
namespace DL
open PySem PySem.Spec PyProof.Rows L2
section
variable {X : Cx} {a b c e : Expr} {te : TD} {t : TAd} {pos pos' : Pos}
end
end DL
namespace DL
open PySem PySem.Spec PyProof.Rows L2
section
variable {X : Cx} {pos : Pos} {a : Expr} {ta : TAd}
end
end DL
namespace DL
open PySem PySem.Spec PyProof.Rows L2
section
variable {X : Cx}
theorem foldK_len : ∀ (ns ks : List Int), (ns.foldl addK ks).length ≤ ks.length + ns.length
  | [], ks => Nat.le_refl _
  | n :: ns, ks => by
    rw [List.foldl_cons, List.length_cons]
    have := foldK_len ns (addK ks n)
    have := addK_len ks n
    omega
theorem ints_dpv {K : PySem.W.Frag} {I : Hp} : ∀ {vs : List V} {ns : List Int}, DpAll K I vs (ns.map .int) → vs = ns.map V.int
  | _, [], h => by cases h; rfl
  | _, n :: ns, h => by
    rw [List.map_cons] at h
    cases h with
    | cons a t => cases a; rw [ints_dpv t]; rfl
end
end DL
namespace DL
open PySem PySem.Spec PyProof.Rows L2
section
variable {X : Cx} {elt iter iter1 : Expr} {scope : Scope} {pos ppos ppos1 px py : Pos} {kk : Nat} {w w1 : TId} {te : TD} {x y z : Str} {i j l : Nat}
end
section
variable {X : Cx} {elt iter iter1 : Expr} {scope : Scope} {pos ppos ppos1 pz spos : Pos} {w w1 : TId} {te : TD} {x y z : Str} {i j k : Nat}
end
section
variable {X : Cx} {o e : Expr} {to te : TD} {pos apos : Pos}
end
end DL
namespace DL
open PySem PySem.Spec PyProof.Rows L2
section
variable {prog : Program} {w : World} {A : Around} {E : Value → Shared → Prop} {s : Shared}
end
section
variable {X : Cx} {a b c d e5 : Expr} {t : TAd} {pos : Pos}
end
end DL
namespace DL
open PySem PySem.Spec PyProof.Rows L2
section
variable {X : Cx} {a b c : Expr} {ta tb tc : TD} {pos : Pos}
end
section
variable {X : Cx} {o e : Expr} {to te : TD} {pos apos : Pos}
end
end DL
namespace DL
open PySem PySem.Spec PyProof.Rows L2
section
variable {X : Cx} {pos : Pos} {a b : Expr} {ta : TAd}
end
section
variable {X : Cx}
variable {elt iter : Expr} {ifs : List Expr} {scope : Scope} {pos ppos : Pos} {w : TId} {tt : TBd} {te : TD} {x : Str} {i : Nat}
end
end DL
namespace DL
open PySem PySem.Spec PyProof.Rows L2
section
variable {prog : Program} {w : World} {A : Around} {E : Value → Shared → Prop} {s : Shared}
theorem lt_int {a b : Int} {t u : Tok} {Q : Value → Shared → Prop} (h : Q (.bool (decide (a < b))) s) : wpAny (model prog w) A (richCompare .Lt (.int a t) (.int b u)) Q E s :=
  CmpOf.ints_lt (P := fun i v => (i = 0 ∧ v = .int a t) ∨ (i = 1 ∧ v = .int b u)) (fun i => if i = 0 then a else b) (fun i v hv => by
    rcases hv with ⟨rfl, rfl⟩ | ⟨rfl, rfl⟩
    · exact ⟨t, rfl⟩
    · exact ⟨u, rfl⟩) 0 1 _ _ s Q E (.inl ⟨rfl, rfl⟩) (.inr ⟨rfl, rfl⟩) h
end
section
variable {prog : Program} {w : World} {A : Around} {R : Result → Shared → Prop} {I : Addr} {fp wr : List Addr} {n : Nat} {P : Nat → Value → Prop} {St : Nat → Heap → Prop} {G : Heap → Prop}
end
section
variable {prog : Program} {w : World} {A : Around} {E : Value → Shared → Prop} {s : Shared}
end
section
variable {X : Cx} {pos : Pos} {e : Expr} {t : TAd}
theorem two_ints {a b : Int} {its : List Value} (h : Vals [V.int a, V.int b] its) : ∃ t u, its = [.int a t, .int b u] := by
  cases h with
  | cons r h =>
    cases h with
    | cons r' h =>
      cases h
      obtain ⟨t, rfl⟩ := r
      obtain ⟨u, rfl⟩ := r'
      exact ⟨t, u, rfl⟩
theorem prs_of {K : PySem.W.Frag} {I : Hp} : ∀ {ps : List (Int × Int)} {vs : List V}, DpAll K I vs (ps.map fun p => .tuple [.int p.1, .int p.2]) → ∃ cs : List (Addr × Int × Int), vs = cs.map (fun c => V.ref c.1) ∧ (∀ c ∈ cs, SqT K I c.1 [V.int c.2.1, V.int c.2.2]) ∧ cs.map (·.2) = ps
  | [], vs, h => by cases h; exact ⟨[], rfl, by simp, rfl⟩
  | p :: ps, vs, h => by
    cases h with
    | cons d h =>
      obtain ⟨cs, e1, e2, e3⟩ := prs_of h
      cases (show Dp K I _ (.tuple [.int p.1, .int p.2]) from d) with
      | tup sq al =>
        rename_i a vs'
        have e := ints_of (ns := [p.1, p.2]) al
        subst e
        refine ⟨(a, p) :: cs, by rw [e1]; rfl, fun c hc => ?_, by rw [List.map_cons, e3]⟩
        rcases List.mem_cons.mp hc with rfl | hc
        · exact sq
        · exact e2 c hc
end
end DL
namespace DL
open PySem PySem.Spec PyProof.Rows L2
abbrev FR (K : PySem.W.Frag) (I : Hp) : List (Str × V) → List (Str × Dv) → Prop := Paired fun p q => p.1 = q.1 ∧ Is K I p.2 q.2
def mIns (K : PySem.W.Frag) (C : Addr) (fs : List (Str × Dv)) : MO :=
  .gen (fun I o => ∃ dx vs, o = .ins C dx vs ∧ FR K I vs fs) (fun I I' o s ⟨dx, vs, e, h⟩ => ⟨dx, vs, e, paired_imp (fun _ _ z => ⟨z.1, z.2.same s⟩) h⟩)
theorem Ok.ins {K : PySem.W.Frag} {H I : Hp} {m : M} {a C : Addr} {fs : List (Str × Dv)} (ok : Ok K H I m) (h : m a = some (mIns K C fs)) : ∃ dx vs, H a = some (.ins C dx vs) ∧ FR K I vs fs := by
  obtain ⟨o, h1, h2⟩ := ok.mu a _ h
  have h2 : ∃ dx vs, o = .ins C dx vs ∧ FR K I vs fs := by cases o <;> exact h2
  obtain ⟨dx, vs, rfl, h⟩ := h2
  exact ⟨dx, vs, h1, h⟩
theorem Ok.over {K : PySem.W.Frag} {H I : Hp} {m : M} (ok : Ok K H I m) {p : Addr} {o : HO} (hp : H p = none) : Ok K (upd H p o) I m := by
  refine ⟨fun a u e => ?_, ok.dj, fun a q e => ?_⟩
  · rw [upd_ne (ne_of_none (ok.im a u e) hp)]; exact ok.im a u e
  · obtain ⟨u, h1, h2⟩ := ok.mu a q e
    exact ⟨u, by rw [upd_ne (ne_of_none h1 hp)]; exact h1, h2⟩
section
variable {X : Cx} {C : Addr} {f : Str} {pos pos' apos : Pos} {o e value : Expr} {ta tv : TD}
variable {k : Nat} {g : Addr} {fd : FuncData} {ps : List Str} {F : FD} {mm : Str} {t : TAd} {es : List Expr}
end
end DL
namespace DL
open PySem PySem.Spec PyProof.Rows L2
abbrev KR (K : PySem.W.Frag) (I : Hp) : List (Key × V) → List (Key × Dv) → Prop := Paired fun p q => p.1 = q.1 ∧ Is K I p.2 q.2
section
variable {X : Cx} {pos pos' tpos apos cpos : Pos} {o i e value : Expr} {td ti tv : TD} {n : Nat}
end
end DL
namespace DL
open PySem PySem.Spec PyProof.Rows L2
section
variable {P : Program} {w : World} {A : Around} {E : Value → Shared → Prop} {s : Shared} {a : Addr}
end
section
variable {X : Cx} {pos : Pos}
end
end DL
namespace DL
open PySem PySem.Spec PyProof.Rows L2
def mFz (K : PySem.W.Frag) (od : Obj) (vs : List (Key × V)) (ps : List (Int × PyData)) : MO :=
  .gen (fun I o => o = .frz od (.dK vs) ∧ KR K I vs (ps.map fun p => (.inl p.1, .d p.2))) (fun I I' o s ⟨e, h⟩ => ⟨e, paired_imp (fun _ _ z => ⟨z.1, z.2.same s⟩) h⟩)
theorem Ok.fz {K : PySem.W.Frag} {H I : Hp} {m : M} {a : Addr} {od : Obj} {vs : List (Key × V)} {ps : List (Int × PyData)} (ok : Ok K H I m) (h : m a = some (mFz K od vs ps)) : H a = some (.frz od (.dK vs)) ∧ KR K I vs (ps.map fun p => (.inl p.1, .d p.2)) := by
  obtain ⟨o, h1, h2⟩ := ok.mu a _ h
  have h2 : o = .frz od (.dK vs) ∧ KR K I vs (ps.map fun p => (.inl p.1, .d p.2)) := by cases o <;> exact h2
  obtain ⟨rfl, h⟩ := h2
  exact ⟨h1, h⟩
section
variable {X : Cx} {tg e : Expr} {td t : TD} {apos cpos : Pos}
end
end DL
namespace DL
open PySem PySem.Spec PyProof.Rows L2
section
variable {X : Cx} {o e : Expr} {to te : TD} {apos pos : Pos}
end
end DL
namespace DL
open PySem PySem.Spec PyProof.Rows L2
section
variable {X : Cx} {pos : Pos} {o i : Expr} {td ti : TD} {n : Nat}
end
end DL
namespace DL
open PySem PySem.Spec PyProof.Rows L2
section
variable {X : Cx} {pos : Pos} {e : Expr} {t : TAd}
end
end DL
namespace DL
open PySem PySem.Spec PyProof.Rows L2
section
variable {X : Cx}
variable {elt iter : Expr} {ifs : List Expr} {scope : Scope} {pos ppos : Pos} {w : TId} {tt : TBd} {te : TD} {x : Str} {i : Nat}
end
end DL
namespace DL
open PySem PySem.Spec PyProof.Rows L2
section
variable {X : Cx} {a b o e : Expr} {ta tb to te : TD} {t : TAd} {pos apos p : Pos} {k : Nat} {tg : Expr}
end
end DL
namespace DL
open PySem PySem.Spec PyProof.Rows L2
section
variable {X : Cx} {a b o e : Expr} {ta tb to te : TD} {t : TAd} {pos apos p : Pos} {k : Nat} {tg : Expr}
def gSFind : R2D
  | .d (.str a), .d (.str b), m, Q => Q (.d (.int (Txt.find a b))) m
  | _, _, _, _ => False
theorem de_sfind (ho : DE X o to) (he : DE X e te)
    (hs : starEach [e] X.env = [(false, eval e X.env)] := by rfl) (hbase : attributeBase o "find" X.env (eval o X.env) = eval o X.env := by rfl) (hline : (apos.endLine == pos.line) = true := by rfl) :
    DE X (.Call (.Attribute o "find" apos) [e] [] pos) (dM1 gSFind to te) := by
  have inv : ∀ {x y m Q}, gSFind x y m Q → ∃ a b, x = .d (.str a) ∧ y = .d (.str b) ∧ Q (.d (.int (Txt.find a b))) m := fun {x y m Q} q => by
    unfold gSFind at q; split at q
    · exact ⟨_, _, rfl, rfl, q⟩
    · exact q.elim
  refine lift_m1 PySem.F.slot_str_find PySem.F.type_str_find mt_find (fun x y m Q Q' h q => ?_) (fun x y m Q q => ?_) (fun H I0 I m x y v w Q ok s hx hy q => ?_) ho he hs hbase hline
  · obtain ⟨a, b, rfl, rfl, q⟩ := inv q; exact h _ _ q
  · obtain ⟨a, b, rfl, _⟩ := inv q; exact ⟨a, rfl⟩
  · obtain ⟨a, b, rfl, rfl, q⟩ := inv q
    exact ⟨a, b, hx.str, by rw [hy.str], qd_same ok s (isI _) q⟩
end
end DL
namespace DL
open PySem PySem.Spec PyProof.Rows L2
section
variable {X : Cx} {a b o e : Expr} {es : List Expr} {ta tb to te : TD} {t : TAd} {pos apos p : Pos} {k : Nat}
def PJ (X : Cx) (es : List Expr) (t : Str → TE) : Prop := ∀ (out : Str) (pins : List (Addr × Obj)) (s : Shared) (σ : St) (H : Hp) (Q : VK), Inv X pins σ H s → t out σ H Q → wpAny (model X.prog X.w) X.A (joinParts out (evalEach es X.env)) (EP X pins σ Q) X.xe s
def shownV : V → Str → Prop
  | .int n, z => z = Str.ofString (toString n) ∧ n.natAbs.log2 < 1920
  | .str y, z => z = y ∧ y.length ≤ sizeLine
  | _, _ => False
theorem pj_nil : PJ X [] fun out σ H Q => out.length ≤ sizeLine ∧ Q (.str out) H := fun out pins s σ H Q I ⟨h, q⟩ => joinParts_nil ⟨.str out, H, I.tok _, ⟨_, rfl⟩, q⟩ h
theorem pj_str {te : TE} {tr : Str → TE} (he : PE X e te) (hr : PJ X es tr) : PJ X (e :: es) fun out σ H Q => te σ H fun v H1 => ∃ z, v = .str z ∧ (out ++ z).length ≤ sizeLine ∧ tr (out ++ z) σ H1 Q := by
  intro out pins s σ H Q I h
  show wpAny _ _ (joinParts out (eval e X.env :: evalEach es X.env)) _ _ _
  refine joinParts_cons (thn (he pins s σ H _ I h) fun u s1 ⟨v, H1, I1, r1, z, e1, hl, q⟩ => ?_)
  subst e1
  obtain ⟨t, rfl⟩ := r1
  exact ⟨hl, hr _ pins s1 σ H1 Q I1 q⟩
theorem pj_fmt {te : TE} {tr : Str → TE} (he : PE X e te) (hr : PJ X es tr) : PJ X (.FormattedValue e (-1) none pos :: es) fun out σ H Q => te σ H fun v H1 => ∃ z, shownV v z ∧ (out ++ z).length ≤ sizeLine ∧ tr (out ++ z) σ H1 Q := by
  intro out pins s σ H Q I h
  show wpAny _ _ (joinParts out (eval (.FormattedValue e (-1) none pos) X.env :: evalEach es X.env)) _ _ _
  refine joinParts_cons (FormattedValue_plain (thn (he pins s σ H _ I h) fun u s1 ⟨v, H1, I1, r1, z, e1, hl, q⟩ => ?_))
  cases v with
  | int n =>
    obtain ⟨rfl, hd⟩ := e1
    obtain ⟨t, rfl⟩ := r1
    exact formatField_int_small hd ⟨hl, hr _ pins _ σ H1 Q (I1.tok _) q⟩
  | str y =>
    obtain ⟨rfl, hy⟩ := e1
    obtain ⟨t, rfl⟩ := r1
    exact formatField_str (fun t' tk => ⟨hl, hr _ pins _ σ H1 Q (I1.tok _) q⟩) hy
  | _ => exact e1.elim
theorem pe_fstr {v1 v2 : Expr} {tr : Str → TE} (h : PJ X (v1 :: v2 :: es) tr) : PE X (.JoinedStr (v1 :: v2 :: es) pos) (tr Str.empty) := fun pins s σ H Q I q => JoinedStr_many (h _ pins s σ H Q I q)
abbrev TJ := Str → TD
structure DJ (X : Cx) (es : List Expr) (t : TJ) : Prop where
  mono : ∀ out, Mo (t out)
  pj : PJ X es fun out => up X.K (t out)
def djNil : TJ := fun out _ m Q => out.length ≤ 16777216 ∧ Q (.d (.str out)) m
def djStr (te : TD) (tr : TJ) : TJ := fun out δ m Q => te δ m fun x m1 => ∃ z, x = .d (.str z) ∧ (out ++ z).length ≤ 16777216 ∧ tr (out ++ z) δ m1 Q
def gShow : Dv → M → (Str → M → Prop) → Prop
  | .d (.int n), m, k => n.natAbs.log2 < 1920 ∧ k (Str.ofString (toString n)) m
  | .d (.str z), m, k => z.length ≤ 16777216 ∧ k z m
  | _, _, _ => False
def djFmt (te : TD) (tr : TJ) : TJ := fun out δ m Q => te δ m fun x m1 => gShow x m1 fun z m1 => (out ++ z).length ≤ 16777216 ∧ tr (out ++ z) δ m1 Q
theorem gShow_inv {x : Dv} {m : M} {k : Str → M → Prop} (h : gShow x m k) : (∃ n, x = .d (.int n) ∧ n.natAbs.log2 < 1920 ∧ k (Str.ofString (toString n)) m) ∨ ∃ z, x = .d (.str z) ∧ z.length ≤ 16777216 ∧ k z m := by
  unfold gShow at h
  split at h
  · exact .inl ⟨_, rfl, h⟩
  · exact .inr ⟨_, rfl, h⟩
  · exact h.elim
theorem gShow_mono {x : Dv} {m : M} {k k' : Str → M → Prop} (hk : ∀ z m, k z m → k' z m) (h : gShow x m k) : gShow x m k' := by
  rcases gShow_inv h with ⟨n, rfl, h1, h2⟩ | ⟨z, rfl, h1, h2⟩
  · exact ⟨h1, hk _ _ h2⟩
  · exact ⟨h1, hk _ _ h2⟩
theorem dj_nil : DJ X [] djNil := by
  refine ⟨fun out δ m Q Q' hq q => ⟨q.1, hq _ _ q.2⟩, fun out pins s σ H Q J ⟨I, δ, m, ok, rl, h, q⟩ => ?_⟩
  exact pj_nil out pins s σ H Q J ⟨by rw [sizeLine_eq]; exact h, q _ H I (Same.refl _) ok (isS _)⟩
theorem dj_str {tr : TJ} (he : DE X e te) (hr : DJ X es tr) : DJ X (e :: es) (djStr te tr) := by
  refine ⟨fun out δ m Q Q' hq q => he.mono δ m _ _ (fun x m1 ⟨z, e1, e2, q1⟩ => ⟨z, e1, e2, hr.mono _ δ m1 _ _ hq q1⟩) q, fun out pins s σ H Q J ⟨I, δ, m, ok, rl, q⟩ => ?_⟩
  refine pj_str he.pe hr.pj out pins s σ H Q J ⟨I, δ, m, ok, rl, he.mono δ m _ _ (fun x m1 ⟨z, e1, e2, q1⟩ v H1 I1 s1 o1 i1 => ?_) q⟩
  subst e1
  exact ⟨z, i1.str, by rw [sizeLine_eq]; exact e2, I1, δ, m1, o1, rl.same s1, hr.mono _ δ m1 _ _ (fun d m' qq v H' I' s' o' i' => qq v H' I' (s1.trans s') o' i') q1⟩
theorem dj_fmt {tr : TJ} (he : DE X e te) (hr : DJ X es tr) : DJ X (.FormattedValue e (-1) none pos :: es) (djFmt te tr) := by
  refine ⟨fun out δ m Q Q' hq q => he.mono δ m _ _ (fun x m1 q1 => gShow_mono (fun z m2 ⟨e2, q2⟩ => ⟨e2, hr.mono _ δ m2 _ _ hq q2⟩) q1) q, fun out pins s σ H Q J ⟨I, δ, m, ok, rl, q⟩ => ?_⟩
  refine pj_fmt he.pe hr.pj out pins s σ H Q J ⟨I, δ, m, ok, rl, he.mono δ m _ _ (fun x m1 q1 v H1 I1 s1 o1 i1 => ?_) q⟩
  rcases gShow_inv q1 with ⟨n, rfl, h1, h2, q2⟩ | ⟨z, rfl, h1, h2, q2⟩
  · rw [i1.int]
    exact ⟨_, ⟨rfl, h1⟩, by rw [sizeLine_eq]; exact h2, I1, δ, m1, o1, rl.same s1, hr.mono _ δ m1 _ _ (fun d m' qq v H' I' s' o' i' => qq v H' I' (s1.trans s') o' i') q2⟩
  · rw [i1.str]
    exact ⟨z, ⟨rfl, by rw [sizeLine_eq]; exact h1⟩, by rw [sizeLine_eq]; exact h2, I1, δ, m1, o1, rl.same s1, hr.mono _ δ m1 _ _ (fun d m' qq v H' I' s' o' i' => qq v H' I' (s1.trans s') o' i') q2⟩
theorem de_fstr {v1 v2 : Expr} {tr : TJ} (h : DJ X (v1 :: v2 :: es) tr) : DE X (.JoinedStr (v1 :: v2 :: es) pos) (tr Str.empty) := ⟨h.mono _, pe_fstr h.pj⟩
theorem mt_rmpre : MtR X "str.removeprefix" (fun x xs H Q => ∃ a b, x = .str a ∧ xs = [.str b] ∧ a.length ≤ sizeLine ∧ Q (.str (Txt.removeprefix a b)) H) := by
  intro pins s σ H x xs v us Q I rx rs h
  obtain ⟨a, b, rfl, rfl, hz, h⟩ := h
  obtain ⟨t, rfl⟩ := rx
  cases rs with
  | cons r1 rs =>
    cases rs
    obtain ⟨u, rfl⟩ := r1
    exact PySem.SC.removeprefix (fun t' k => ⟨.str _, H, I.tok k, ⟨t', rfl⟩, h⟩) hz
def gRmp : R2D
  | .d (.str a), .d (.str b), m, Q => a.length ≤ 16777216 ∧ Q (.d (.str (Txt.removeprefix a b))) m
  | _, _, _, _ => False
theorem de_rmpre (ho : DE X o to) (he : DE X e te)
    (hs : starEach [e] X.env = [(false, eval e X.env)] := by rfl) (hbase : attributeBase o "removeprefix" X.env (eval o X.env) = eval o X.env := by rfl) (hline : (apos.endLine == pos.line) = true := by rfl) :
    DE X (.Call (.Attribute o "removeprefix" apos) [e] [] pos) (dM1 gRmp to te) := by
  have inv : ∀ {x y m Q}, gRmp x y m Q → ∃ a b, x = .d (.str a) ∧ y = .d (.str b) ∧ a.length ≤ 16777216 ∧ Q (.d (.str (Txt.removeprefix a b))) m := fun {x y m Q} q => by
    unfold gRmp at q; split at q
    · exact ⟨_, _, rfl, rfl, q⟩
    · exact q.elim
  refine lift_m1 PySem.F.slot_str_removeprefix PySem.F.type_str_removeprefix mt_rmpre (fun x y m Q Q' h q => ?_) (fun x y m Q q => ?_) (fun H I0 I m x y v w Q ok s hx hy q => ?_) ho he hs hbase hline
  · obtain ⟨a, b, rfl, rfl, hl, q⟩ := inv q; exact ⟨hl, h _ _ q⟩
  · obtain ⟨a, b, rfl, _⟩ := inv q; exact ⟨a, rfl⟩
  · obtain ⟨a, b, rfl, rfl, hl, q⟩ := inv q
    exact ⟨a, b, hx.str, by rw [hy.str], by rw [sizeLine_eq]; exact hl, qd_same ok s (isS _) q⟩
theorem strs_dp {K : PySem.W.Frag} {I : Hp} : ∀ ys : List Str, DpAll K I (ys.map V.str) (ys.map .str)
  | [] => .nil
  | y :: ys => .cons (.str y) (strs_dp ys)
def gSplit : R2D
  | .d (.str a), .d (.str b), m, Q => (b.length == 0) = false ∧ a.length + 2 ≤ 16777216 ∧ Q (.d (.list ((Txt.split a b).map .str))) m
  | _, _, _, _ => False
theorem de_split (ho : DE X o to) (he : DE X e te)
    (hs : starEach [e] X.env = [(false, eval e X.env)] := by rfl) (hbase : attributeBase o "split" X.env (eval o X.env) = eval o X.env := by rfl) (hline : (apos.endLine == pos.line) = true := by rfl) :
    DE X (.Call (.Attribute o "split" apos) [e] [] pos) (dM1 gSplit to te) := by
  have inv : ∀ {x y m Q}, gSplit x y m Q → ∃ a b, x = .d (.str a) ∧ y = .d (.str b) ∧ (b.length == 0) = false ∧ a.length + 2 ≤ 16777216 ∧ Q (.d (.list ((Txt.split a b).map .str))) m := fun {x y m Q} q => by
    unfold gSplit at q; split at q
    · exact ⟨_, _, rfl, rfl, q⟩
    · exact q.elim
  refine lift_m1 PySem.F.slot_str_split PySem.F.type_str_split mt_split (fun x y m Q Q' h q => ?_) (fun x y m Q q => ?_) (fun H I0 I m x y v w Q ok s hx hy q => ?_) ho he hs hbase hline
  · obtain ⟨a, b, rfl, rfl, h1, h2, q⟩ := inv q; exact ⟨h1, h2, h _ _ q⟩
  · obtain ⟨a, b, rfl, _⟩ := inv q; exact ⟨a, rfl⟩
  · obtain ⟨a, b, rfl, rfl, h1, h2, q⟩ := inv q
    exact ⟨a, b, hx.str, by rw [hy.str], h1, by rw [sizeLine_eq]; exact h2, fun p hp => qd_newL ok s hp (strs_dp _) q⟩
def gJoin : R2D
  | .d (.str a), .d (.list xs), m, Q => ∃ ys : List Str, xs = ys.map .str ∧ (ys.map (·.length)).sum + ys.length * a.length ≤ 16777216 ∧ Q (.d (.str (Txt.join a ys))) m
  | _, _, _, _ => False
def gIntS : RAD
  | [.d (.str a)], m, Q => ∃ n, PySem.intText? a = some n ∧ a.length ≤ 640 ∧ Q (.d (.int n)) m
  | _, _, _ => False
theorem de_intS (hg : Gl X "int") (hm : X.mg "int" = none) (ha : DA X [e] t) (he : starEach [e] X.env = [(false, eval e X.env)] := by rfl) : DE X (.Call (.Name "int" p) [e] [] pos) (dCB gIntS t) := by
  refine de_callTy call_int_str ⟨fun xs m Q Q' h q => ?_, fun H I0 I m xs vs Q ok s hx q => ?_⟩ hg hm (by decide +kernel) ha (he := he)
  · unfold gIntS at q ⊢
    split at q
    · obtain ⟨n, e1, e2, z⟩ := q; exact ⟨n, e1, e2, h _ _ z⟩
    · exact q.elim
  · unfold gIntS at q
    split at q
    · obtain ⟨n, e1, e2, z⟩ := q
      obtain ⟨v, rfl, hv⟩ := isAll1 hx
      exact ⟨_, n, by rw [hv.str], e1, e2, qd_same ok s (isI _) z⟩
    · exact q.elim
def gMulS : R2D
  | .d (.str a), .d (.int n), m, Q => (n = 0 ∧ Q (.d (.str Str.empty)) m) ∨ (n = 1 ∧ Q (.d (.str a)) m)
  | _, _, _, _ => False
end
end DL
set_option maxHeartbeats 1000000
namespace DL
open PySem PySem.Spec PyProof.Rows L2
structure GenK (K : PySem.W.Frag) (c P : Addr) : Prop where
  code : ∃ o vs file tf flags tg inF text tt, K.lookup c = some o ∧ o.cls = .type "code" ∧ o.data = .fields vs ∧ vs[11]? = some (.ref P) ∧ vs.getD 18 .none = .str file tf ∧ vs.getD 7 .none = .int flags tg ∧ vs.getD 9 .none = .bool inF ∧ vs.getD 10 .none = .int text tt
  no : K.lookup P = none
def BmB (base : Heap) (mg : Str → Option Value) : Prop := ∃ b ob, BMod base mainGlobals mg b ob
def fdOfL {K : PySem.W.Frag} {a : Addr} {oc : Value} {od : Option Addr} {fd : FuncData} {sl : Array (Option Value)} (_ : K.lookup a = some ⟨oc, od, .func fd, sl⟩) : FuncData := fd
theorem GenK.ne {K : PySem.W.Frag} {c P : Addr} (G : GenK K c P) : c ≠ P := fun e => by
  obtain ⟨o, vs, _, _, _, _, _, _, _, h, _⟩ := G.code
  rw [e, G.no] at h; cases h
theorem GenK.isCode {K : PySem.W.Frag} {c P : Addr} {h : Heap} {ps : Array Value} (G : GenK K c P) (X : K.In h) (hP : h.get? P = some { cls := .none, data := .fields ps }) (ht : TriplesOk ps.toList) : h.IsCode c P ps := by
  obtain ⟨o, vs, file, tf, flags, tg, inF, text, tt, h0, h1, h2, h3, h4, h5, h6, h7⟩ := G.code
  exact ⟨o, vs, file, tf, flags, tg, inF, text, tt, _, X _ _ h0, h2, by rw [Array.getD_eq_getD_getElem?, h3]; rfl, h4, h5, h6, h7, hP, rfl, ht, G.ne⟩
theorem GenK.tabAt {K : PySem.W.Frag} {c P : Addr} {h : Heap} {ps : Array Value} (G : GenK K c P) (X : K.In h) (hP : h.get? P = some { cls := .none, data := .fields ps }) : h.TableAt c P ps := by
  obtain ⟨o, vs, file, tf, flags, tg, inF, text, tt, h0, h1, h2, h3, h4, h5, h6, h7⟩ := G.code
  exact ⟨⟨o, vs, X _ _ h0, h1, h2, h3⟩, hP⟩
section
variable {X : Cx} {pins : List (Addr × Obj)} {σ : L2.St} {H : Hp} {s s' : Shared} {P : Addr} {ps more : Array Value}
theorem Inv.tbl (I : Inv X pins σ H s) (hP : H P = some (.tbl ps)) (os : s'.os = s.os) (bare : AllBare s'.gens) (kp : ∀ b o, b ≠ P → s.heap.get? b = some o → s'.heap.get? b = some o)
    (nP : s'.heap.get? P = some { cls := .none, data := .fields (ps ++ more) }) : Inv X pins σ (upd H P (.tbl (ps ++ more))) s' := by
  have neN : ∀ b, H b = none → b ≠ P := fun b e z => by rw [z, hP] at e; cases e
  have neT : ∀ b o, H b = some o → (∀ ps', o ≠ .tbl ps') → b ≠ P := fun b o e hn z => by rw [z, hP] at e; cases e; exact hn _ rfl
  have un : Un X.fs X.ex H (upd H P (.tbl (ps ++ more))) s.heap s'.heap := by
    refine ⟨fun b o e n _ _ => kp b o (neN b n) e, fun b o e n _ _ => ⟨o.slots, kp b o (neN b n) e⟩, fun b o _ n _ => by rw [upd_ne (neN b n)]; exact n, fun b o e _ => ?_, fun b xs e => by rw [upd_ne (neT b _ e (fun _ z => nomatch z))]; exact e, fun b o u e => by rw [upd_ne (neT b _ e (fun _ z => nomatch z))]; exact e, fun b qs e => ?_⟩
    · by_cases hb : b = P
      · subst hb; exact ⟨_, nP⟩
      · exact ⟨o, kp b o hb e⟩
    · by_cases hb : b = P
      · subst hb; rw [hP] at e; cases e; exact ⟨more, upd_same⟩
      · exact ⟨#[], by rw [upd_ne hb, e]; simp⟩
  have kpN : ∀ {b : Addr} {m : Str → Option Value}, s.heap.Ns b m → H b = none → s'.heap.Ns b m := fun {b m} ⟨o, es, ep, e, r⟩ n => ⟨o, es, ep, kp b o (neN b n) e, r⟩
  have kpC : ∀ {c : Addr} {v : Option Value}, s.heap.IsCell c v → H c = none → s'.heap.IsCell c v := fun {c v} ⟨o, e, r⟩ n => ⟨o, kp c o (neN c n) e, r⟩
  obtain ⟨m, hn, hl⟩ := I.loc
  refine ⟨I.ok, os.trans I.os, bare, I.base.trans un, ⟨m, kpN hn I.free, fun i x v e1 e2 e3 => ?_⟩, fun x c e => ?_, by rw [upd_ne (neN _ I.free)]; exact I.free, fun x c e => by rw [upd_ne (neN _ (I.freeC x c e))]; exact I.freeC x c e, fun p hp => ?_, fun b o e => ?_, I.len⟩
  · obtain ⟨u, r, q⟩ := hl i x v e1 e2 e3
    refine ⟨u, r, ?_⟩
    rcases q with q | ⟨k, c, e, z⟩
    · exact .inl q
    · exact .inr ⟨k, c, e, kpC z (I.freeC x c e)⟩
  · obtain ⟨v, z⟩ := I.cell x c e
    exact ⟨v, kpC z (I.freeC x c e)⟩
  · obtain ⟨e, n, r⟩ := I.pin p hp
    exact ⟨kp _ _ (neN _ n) e, by rw [upd_ne (neN _ n)]; exact n, r⟩
  · by_cases hb : b = P
    · subst hb; rw [upd_same] at e; cases e; exact nP
    · rw [upd_ne hb] at e
      refine (I.hok b o e).stay (fun c u hc q => kp c u (fun z => ?_) q) (fun c q => by rw [upd_ne (neT c _ q (fun _ z => nomatch z))]; exact q) fun c xs q => by rw [upd_ne (neT c _ q (fun _ z => nomatch z))]; exact q
      rcases hc with y | y
      · exact hb (y.symm.trans z)
      · rw [z, hP] at y; cases y
end
section
variable {X : Cx} {e elt : Expr} {ta : TE} {te : TD} {x : Str} {px gpos pos p : Pos} {scope : Scope} {c P : Addr} {f : Nat → Bool}
def EltAt (X : Cx) (scope : Scope) (x : Str) (elt : Expr) (f : Nat → Bool) : Prop :=
  ∀ (C : Addr) (cv : Value) (A' : Around) (E' : Value → Shared → Prop) (cc : Nat) (tk : Tok) (t : Shared) (m : Str → Option Value), t.heap.Ns C m → m x = some (.str ⟨#[cc]⟩ tk) → (∀ b o, X.base.get? b = some o → t.heap.get? b = some o) → Mod X.K X.mg X.base →
    wpAny (model X.prog X.w) A' (eval elt (genEnv scope [] C cv builtinsNs X.env)) (fun y s3 => y = .bool (f cc) ∧ Keeps t s3) E' t
def tAllG (P : Addr) (f : Nat → Bool) (ta : TE) : TE := fun σ H Q => ta σ H fun v H1 => ∃ z ps, v = .str z ∧ H1 P = some (.tbl ps) ∧ TriplesOk ps.toList ∧ ∀ more : Array Value, TriplesOk (ps ++ more).toList → Q (.bl (z.cps.toList.all f)) (upd H1 P (.tbl (ps ++ more)))
theorem boot_all : bootBuiltins "all" = some (.builtin "all") := by decide +kernel
theorem pe_allG {k : Nat} (hr : Room k X.A) (G : GenK X.K c P) (Bm : BmB X.base X.mg) (hcode : X.env.code = .ref c) (hg : Gl X "all") (hm : X.mg "all" = none) (ha : PE X e ta) (hE : EltAt X scope x elt f)
    (hclos : closureFor scope X.env = pure []) (hco : scope.isCoroutine = false) (hcell : ∀ y ∈ scope.names, y.2 ≠ .cell) (h0 : scope.names.lookup (".0" : Str) = some NameKind.local) (hx : scope.names.lookup x = some .local) (hkind : scope.kind = .function)
    (hs : ∀ v, genFold e X.env v = pure v)
    (he : starEach [.GeneratorExp elt [⟨.Name x px, e, [], 0⟩] scope gpos] X.env = (false, eval (.GeneratorExp elt [⟨.Name x px, e, [], 0⟩] scope gpos) X.env) :: starEach [] X.env := by rfl) (hpl : (backTo pos (starEach [] X.env)).any (·.1) = false := by rfl) :
    PE X (.Call (.Name "all" p) [.GeneratorExp elt [⟨.Name x px, e, [], 0⟩] scope gpos] [] pos) (tAllG P f ta) := by
  intro pins s σ H Q I h
  refine wpAny_Call_Name_kw (ld_blt I hg hm boot_all ?_ (by decide) (by decide))
  refine PyProof.Rows.callWith_builtin1 ?_ he hpl
  rw [he]
  show wpAny _ _ (spliced [(false, eval (.GeneratorExp elt [⟨.Name x px, e, [], 0⟩] scope gpos) X.env)]) _ _ s
  have hh : X.A.handled = none := hr.hd
  have hroom : X.A.depth < recursionLimit := by have := hr.dp; omega
  refine Calls.spliced_cons (wpAny_GeneratorExp_walksQD (cl := []) hh hco hclos hcell h0 hx hkind hroom (thn (ha pins s σ H _ I h) fun u s1 ⟨v, H1, I1, rv, z, ps, ev, hP, tr, q⟩ => ?_) hs)
  subst ev
  obtain ⟨tz, rfl⟩ := rv
  refine wpAny_pyIter_str fun o St W hst => ?_
  have keep2 : ∀ b o', s1.heap.get? b = some o' → (s1.heap.push o).get? b = some o' := fun b o' e => Heap.get?_push_of_some _ e
  have I2 : Inv X pins σ H1 { s1 with heap := s1.heap.push o } := I1.kept (t' := s1.toks) keep2
  have tP : (s1.heap.push o).get? P = some { cls := .none, data := .fields ps } := I2.hok P _ hP
  have hPlt : P < s1.heap.objs.size := Heap.lt_size (show s1.heap.get? P = some _ from I1.hok P _ hP)
  have isC : (s1.heap.push o).IsCode c P ps := G.isCode I2.kIn tP tr
  have isT : (s1.heap.push o).TableAt c P ps := G.tabAt I2.kIn tP
  refine ⟨I2.nolimit, ?_⟩
  have hsz1 : (s1.heap.push o).objs.size = s1.heap.objs.size + 1 := Heap.size_push ..
  have hL : X.env.locals < s1.heap.objs.size := I1.lt
  -- behind the code, hit or made
  have cont : ∀ (cv : Value) (h3 : Heap) (tk3 : Nat) (more : Array Value), Heap.ExtBut P (s1.heap.push o) h3 → (s1.heap.push o).objs.size ≤ h3.objs.size → h3.get? P = some { cls := .none, data := .fields (ps ++ more) } → TriplesOk (ps ++ more).toList →
      wpAny (model X.prog X.w) X.A (builtinsFor X.env.globals X.env.builtins) (fun bi s4 => ∃ It fp wr n0 Pi St0 pz F, (Value.ref s1.heap.objs.size) = .ref It ∧ (∀ A' : Around, A'.handled = none → Walks X.prog X.w A' It fp wr n0 Pi St0) ∧ St0 0 s4.heap ∧ (∀ b ∈ fp, b < s4.heap.objs.size) ∧ s4.heap.NoLimit ∧ cStatics ∉ wr ∧
          (∀ href : Heap, (∀ b o, s4.heap.get? b = some o → href.get? b = some o) →
            QuietGenD X.prog X.w (genEnv scope [] s4.heap.objs.size cv bi X.env) x [] elt (List.range s4.heap.objs.size) wr Pi pz F href (X.A.depth + 1) (X.A.units + 8)) ∧
          (∀ a h5 tk gs, gs.bare = true → s4.heap.objs.size < a → h5.objs.size = a + 1 → (∀ b o, s4.heap.get? b = some o → h5.get? b = some o) →
            WalksS X.prog X.w X.A.in4 a (a :: s4.heap.objs.size :: List.range s4.heap.objs.size) (s4.heap.objs.size :: wr) (GenOnlyQ s4.gens.size) (passing pz n0 0).length
              (fun j y => ∃ i, (passing pz n0 0)[j]? = some i ∧ F i y) (GenAt X.prog X.w X.A.in4 a s4.gens.size s4.heap.objs.size (List.range s4.heap.objs.size) wr pz n0 F) →
            GenAt X.prog X.w X.A.in4 a s4.gens.size s4.heap.objs.size (List.range s4.heap.objs.size) wr pz n0 F 0 { s4 with gens := s4.gens.push gs, toks := tk, heap := h5 } →
            wpAny (model X.prog X.w) X.A (spliced []) (fun vs s₁ => wpAny (model X.prog X.w) X.A (call (.builtin "all") ([.ref a] ++ vs)) (EP X pins σ Q) X.xe s₁) X.xe { s4 with gens := s4.gens.push gs, toks := tk, heap := h5 })) X.xe { s1 with heap := h3, toks := tk3 } := by
    intro cv h3 tk3 more ext hsz nP tr'
    have keep3 : ∀ b o', b ≠ P → s1.heap.get? b = some o' → h3.get? b = some o' := fun b o' hb e => ext b o' hb (keep2 b o' e)
    have I3 : Inv X pins σ (upd H1 P (.tbl (ps ++ more))) { s1 with heap := h3, toks := tk3 } := Inv.tbl (s' := { s1 with heap := h3, toks := tk3 }) I1 hP rfl I1.bare keep3 nP
    obtain ⟨b0, ob, bM⟩ := Bm
    have bM := bM.keeps I3.bk
    have g3 : h3.Ns mainGlobals X.mg := I3.mod.glob.keeps I3.bk
    have hsz3 : s1.heap.objs.size < h3.objs.size := by rw [hsz1] at hsz; exact hsz
    have hcs : cStatics < s1.heap.objs.size := let ⟨_, hn, _⟩ := I1.nolimit; hn.lt
    refine wpAny_builtinsFor (m := X.mg) (by rw [I1.ok.glob]; exact g3) bM.name bM.ne bM.obj bM.cls bM.dict bM.data ?_
    refine ⟨s1.heap.objs.size, [s1.heap.objs.size], [s1.heap.objs.size], z.cps.size, SignAt z, St, (fun _ => true), (fun i y => ∃ cc, z.cps[i]? = some cc ∧ y = .bool (f cc)), rfl, W, ?_, ?_, I3.nolimit, ?_, ?_, ?_⟩
    · refine (W X.A hh).frame _ _ _ hst fun b hb o' e => ext b o' (fun y => ?_) e
      have hb : b = s1.heap.objs.size := by simpa using hb
      rw [← y, hb] at hPlt; exact Nat.lt_irrefl _ hPlt
    · intro b hb
      have hb : b = s1.heap.objs.size := by simpa using hb
      rw [hb]; exact hsz3
    · intro hb
      have hb : cStatics = s1.heap.objs.size := by simpa using hb
      rw [hb] at hcs; exact Nat.lt_irrefl _ hcs
    · intro href hk
      refine ⟨fun A' E' i v t m hA hD hU hPi hn hm hkp => ?_, fun A' E' i v t m hA hD hU hPi _ hn hm hkp => ?_⟩
      · exact wpAny_pure ⟨rfl, ⟨_, _, rfl, fun _ _ e => e⟩⟩
      · obtain ⟨cc, tk, hcc, rfl⟩ := hPi
        refine wpAny_mono (hE _ cv A' E' cc tk t m hn hm (fun b o' e => ?_) I1.mod) (fun y s3 ⟨e, k⟩ => ⟨⟨cc, hcc, e⟩, k⟩) fun _ _ e => e
        have e3 : h3.get? b = some o' := I3.bk b o' e
        have e1 : b < s1.heap.objs.size := Heap.lt_size (I1.bk b o' e)
        exact hkp b (List.mem_range.mpr (Heap.lt_size e3)) (fun hb => by have hb : b = s1.heap.objs.size := by simpa using hb
                                                                         rw [hb] at e1; exact Nat.lt_irrefl _ e1) o' (hk b o' e3)
    · intro a h5 tk gs hgb hag hsz5 hk5 WS hat
      refine Calls.spliced_nil ?_
      obtain ⟨m, fr⟩ := I3.fr
      have hpass : passing (fun _ => true) z.cps.size 0 = List.range z.cps.size := by simp [passing]
      rw [hpass] at WS
      have hlen : (List.range z.cps.size).length = z.cps.size := by simp
      refine all_rowsK (K := s1.heap.objs.size - 1) (n := (List.range z.cps.size).length) (F := fun j y => ∃ i, (List.range z.cps.size)[j]? = some i ∧ ∃ cc, z.cps[i]? = some cc ∧ y = .bool (f cc)) (Fr.keeps fr hk5) (I1.bare.push hgb) ⟨_, _, _, _, WS, hat, fun i s' st => st.1.typeIs, List.mem_cons_self, ?_, ?_⟩ (Nat.le_sub_one_of_lt hL)
        (fun j => match z.cps[j]? with | some cc => f cc | none => true) (fun j v s0 Q0 E0 hv hQ0 => ?_) fun s' F' G' hos hk => ?_
      · intro b hb
        show b < h5.objs.size
        rw [hsz5]
        rcases List.mem_cons.mp hb with rfl | hb
        · exact Nat.lt_succ_self _
        · rcases List.mem_cons.mp hb with rfl | hb
          · exact Nat.lt_succ_of_lt hag
          · exact Nat.lt_succ_of_lt (Nat.lt_trans (List.mem_range.mp hb) hag)
      · intro b hb
        rcases List.mem_cons.mp hb with rfl | hb
        · show s1.heap.objs.size - 1 < h3.objs.size
          omega
        · have hb : b = s1.heap.objs.size := by simpa using hb
          rw [hb]
          exact Nat.sub_lt (Nat.lt_of_le_of_lt (Nat.zero_le _) hL) (by decide)
      · obtain ⟨i, hi, cc, hcc, rfl⟩ := hv
        have hij : i = j := by
          have hj := (List.getElem?_eq_some_iff.mp hi).1
          rw [List.getElem?_range (by simpa using hj)] at hi
          exact (Option.some.inj hi).symm
        subst hij
        simp only [hcc] at hQ0
        exact wpAny_truthy_bool hQ0
      · have lt1 : ∀ b, b < s1.heap.objs.size → b ≤ s1.heap.objs.size - 1 := fun b hb => Nat.le_sub_one_of_lt hb
        have I5 : Inv X pins σ (upd H1 P (.tbl (ps ++ more))) s' := Inv.tbl (s' := s') I1 hP hos G' (fun b o' hb e => hk b o' (lt1 b (Heap.lt_size e)) (hk5 b o' (keep3 b o' hb e))) (hk P _ (lt1 P hPlt) (hk5 P _ nP))
        have ea : ((List.range (List.range z.cps.size).length).all fun j => match z.cps[j]? with | some cc => f cc | none => true) = z.cps.toList.all f := by
          rw [hlen, Bool.eq_iff_iff, List.all_eq_true, List.all_eq_true]
          constructor
          · intro h cc hcc
            obtain ⟨j, hj, rfl⟩ := List.getElem_of_mem hcc
            have := h j (List.mem_range.mpr (by simpa using hj))
            rw [Array.getElem?_eq_getElem (by simpa using hj)] at this
            simpa using this
          · intro h j hj
            have hj := List.mem_range.mp hj
            rw [Array.getElem?_eq_getElem hj]
            exact h _ (by simp)
        rw [ea]
        exact ⟨.bl (z.cps.toList.all f), _, I5, rfl, q more tr'⟩
  cases hf : codeAmong gpos ps.toList with
  | some cv =>
    refine wpAny_genexprCode_hit hcode isC hf ?_
    have := cont cv (s1.heap.push o) s1.toks #[] (fun b o' _ e => e) (Nat.le_refl _) (by simpa using tP) (by simpa using tr)
    exact this
  | none =>
    refine wpAny_genexprCodeX hcode isC isT hf fun c' h3 tk3 hx3 hge hlt hcode3 _ htab3 _ => ?_
    have t3 : TriplesOk (ps ++ #[rawInt gpos.line, rawInt gpos.col, .ref c']).toList := by
      obtain ⟨_, _, _, _, _, _, _, _, _, _, _, _, _, _, _, _, _, _, _, t, _⟩ := hcode3
      exact t
    exact cont (.ref c') h3 tk3 _ hx3 (Nat.le_trans hge (Nat.le_of_lt hlt)) htab3.2 t3
theorem elt_inG {y : Str} {v : Str} {tv : Tok} {p1 p2 p3 : Pos} (hk : scope.kind = .function) (hgl : X.env.globals = mainGlobals) (hx : scope.names.lookup x = some .local) (hy : scope.names.lookup y = some .globalImplicit) (hm : X.mg y = some (.str v tv))
    (hdx : (x == ("__debug__" : Str)) = false := by decide) (hdy : (y == ("__debug__" : Str)) = false := by decide) :
    EltAt X scope x (.Compare (.Name x p1) [.In] [.Name y p2] p3) fun cc => occ ⟨#[cc]⟩ v := by
  intro C cv A' E' cc tk t m hn hv hb mo
  refine wpAny_Compare1 ?_ rfl
  refine wpAny_Name (wpAny_loadName_local (m := m) hk hx hn hv ?_) hdx
  refine Calls.Name_function_global hk hy (Calls.loadGlobal_global (mg := X.mg) (by show t.heap.Ns X.env.globals X.mg; rw [hgl]; exact mo.glob.keeps hb) hm ?_) hdy
  exact in_str ⟨rfl, _, _, rfl, fun _ _ e => e⟩
end
def mTbl : MO := .gen (fun _ o => ∃ ps, o = .tbl ps ∧ TriplesOk ps.toList) fun _ _ _ _ h => h
theorem mTbl_inv {K : PySem.W.Frag} {I : Hp} {o : HO} (h : MRel K I o mTbl) : ∃ ps, o = .tbl ps ∧ TriplesOk ps.toList := by cases o <;> exact h
theorem mTbl_mk {K : PySem.W.Frag} {I : Hp} {ps : Array Value} (h : TriplesOk ps.toList) : MRel K I (.tbl ps) mTbl := ⟨ps, rfl, h⟩
theorem Ok.tbl {K : PySem.W.Frag} {H I : Hp} {m : M} {P : Addr} {qs : Array Value} (ok : Ok K H I m) (hm : m P = some mTbl) (ht : TriplesOk qs.toList) : Ok K (upd H P (.tbl qs)) I m := by
  have nI : ∀ b o, I b = some o → b ≠ P := fun b o e z => by have := ok.dj b o e; rw [z, hm] at this; cases this
  refine ⟨fun a o e => by rw [upd_ne (nI a o e)]; exact ok.im a o e, ok.dj, fun a q e => ?_⟩
  by_cases h : a = P
  · subst h; rw [hm] at e; cases e; exact ⟨_, upd_same, mTbl_mk ht⟩
  · obtain ⟨o, h1, h2⟩ := ok.mu a q e
    exact ⟨o, by rw [upd_ne h]; exact h1, h2⟩
section
variable {X : Cx} {e elt : Expr} {te : TD} {x : Str} {px gpos pos p : Pos} {scope : Scope} {c P : Addr} {f : Nat → Bool}
def dAllG (P : Addr) (f : Nat → Bool) (te : TD) : TD := fun δ m Q => te δ m fun v m1 => ∃ z, v = .d (.str z) ∧ m1 P = some mTbl ∧ Q (.d (.bool (z.cps.toList.all f))) m1
theorem de_allG {k : Nat} (hr : Room k X.A) (G : GenK X.K c P) (Bm : BmB X.base X.mg) (hcode : X.env.code = .ref c) (hg : Gl X "all") (hm : X.mg "all" = none) (ha : DE X e te) (hE : EltAt X scope x elt f)
    (hclos : closureFor scope X.env = pure []) (hco : scope.isCoroutine = false) (hcell : ∀ y ∈ scope.names, y.2 ≠ .cell) (h0 : scope.names.lookup (".0" : Str) = some NameKind.local) (hx : scope.names.lookup x = some .local) (hkind : scope.kind = .function)
    (hs : ∀ v, genFold e X.env v = pure v)
    (he : starEach [.GeneratorExp elt [⟨.Name x px, e, [], 0⟩] scope gpos] X.env = (false, eval (.GeneratorExp elt [⟨.Name x px, e, [], 0⟩] scope gpos) X.env) :: starEach [] X.env := by rfl) (hpl : (backTo pos (starEach [] X.env)).any (·.1) = false := by rfl) :
    DE X (.Call (.Name "all" p) [.GeneratorExp elt [⟨.Name x px, e, [], 0⟩] scope gpos] [] pos) (dAllG P f te) := by
  refine de_of (pe_allG hr G Bm hcode hg hm ha.pe hE hclos hco hcell h0 hx hkind hs he hpl) (fun δ m Q Q' hq q => ha.mono δ m _ _ (fun v m1 ⟨z, e1, e2, k⟩ => ⟨z, e1, e2, hq _ _ k⟩) q) fun σ H I δ m Q ok rl q => ?_
  refine ⟨I, δ, m, ok, rl, ha.mono δ m _ _ (fun v m1 ⟨z, e1, e2, k⟩ v1 H1 I1 s1 o1 i1 => ?_) q⟩
  subst e1
  obtain ⟨o, h1, h2⟩ := o1.mu P _ e2
  obtain ⟨ps, rfl, tr⟩ := mTbl_inv h2
  exact ⟨z, ps, i1.str, h1, tr, fun more tr' => qd_same (o1.tbl e2 tr') s1 (isB _) k⟩
end
section
variable {P : Program} {w : World} {K : PySem.W.Frag} {mg : Str → Option Value} {base : Heap}
theorem Fun.okC {x qual : Str} {st : Stmt} {f : Addr} {fd : FuncData} {N ps : List Str} {k : Nat} {sp : L2.Sp} (F : Fun K x qual st f fd) (S : FnScope N ps (defScope st)) (len : ∀ vs H Q E, sp vs H Q E → vs.length = ps.length)
    (hbody : ∀ (cdv : Value), fd.code = cdv → ∀ (A : Around) (outer : List Env) (s : Shared) (H : Hp) (vs : List V) (Q : VK) (E : XK), Room k (A.deeper (envOfC qual (defScope st) s.heap.objs.size f cdv)) → sp vs H Q E →
      ∃ t, PSs (cxOf CX0 P w K mg base N qual (defScope st) f cdv A outer s H E).nox (defBody st) t ∧ t { nx := fun _ H' => Q .non H', rt := Q } (start N vs) H) : FnOk P w K mg base CX0 (k + 1) f fd ps sp := by
  obtain ⟨oc, od, kV, doc, pm, an, cdv, ct, osl, rfl, lk, hcd⟩ := F.ex
  refine fn_of lk hcd S len fun A outer s H vs Q E hr hsp => ?_
  obtain ⟨t, h, q⟩ := hbody cdv rfl A outer s H vs Q E hr hsp
  exact ⟨t, h.nox, q⟩
theorem Fun.okDC {x qual : Str} {st : Stmt} {f : Addr} {fd : FuncData} {N ps : List Str} {k : Nat} {F : FD} (G : Fun K x qual st f fd) (S : FnScope N ps (defScope st)) (hF : MoA F) (len : ∀ ds m Q, F ds m Q → ds.length = ps.length)
    (hbody : ∀ (cdv : Value), fd.code = cdv → ∀ (A : Around) (outer : List Env) (s : Shared) (H : Hp) (E : XK), Room k (A.deeper (envOfC qual (defScope st) s.heap.objs.size f cdv)) →
      ∃ t, DSs (cxOf CX0 P w K mg base N qual (defScope st) f cdv A outer s H E).nox (defBody st) t ∧ ∀ ds m Q, F ds m Q → t { nx := fun _ m' => Q (.d .none) m', rt := Q } (startD N ds) m) : FnOk P w K mg base CX0 (k + 1) f fd ps (spD K F) := by
  refine Fun.okC G S (fun vs H Q E h => ?_) (fun cdv hc A outer s H vs Q E hr h => ?_)
  · obtain ⟨I, ds, m, ok, is, q⟩ := h
    rw [paired_len is]
    exact len ds m _ q
  · obtain ⟨I, ds, m, ok, is, q⟩ := h
    obtain ⟨t, ht, hq⟩ := hbody cdv hc A outer s H E hr
    refine ⟨_, ht.ps, I, startD N ds, m, ok, rl_start is, ?_⟩
    refine ht.mono { nx := fun _ m' => ∀ v H' I', Same I I' → Ok K H' I' m' → Is K I' v (.d .none) → Q v H', rt := fun d m' => ∀ v H' I', Same I I' → Ok K H' I' m' → Is K I' v d → Q v H' } _ _ _ ⟨fun _ m' z σ' H' I' s' o' _ => z _ H' I' s' o' isN, fun _ _ z => z, fun _ _ z => z.elim, fun _ _ z => z.elim⟩ (hq ds m _ q)
end
end DL
set_option maxHeartbeats 1000000
namespace DL
open PySem PySem.Spec PyProof.Rows L2
theorem law_callP {Pr : Program} {w : World} {K : PySem.W.Frag} {mg mb : Str → Option Value} {k : Nat} {fa a c Pt : Addr} {fd : FuncData} {x : Str} {sp : L2.Sp} {s₁ : Shared} {vs : List Value} {ns : List Int}
    (KX : K.In s₁.heap) (hns : s₁.heap.Ns mainGlobals mg) (hb : s₁.heap.Ns builtinsNs mb) (hbb : ∀ x : Str, x ≠ "__name__" → mb x = bootBuiltins x) (hlim : s₁.heap.NoLimit) (hg : s₁.gens = #[])
    (ha : s₁.heap.get? a = some { cls := .type "list", data := .seq vs.toArray }) (hi : IntsAre vs ns) (hl : ns.length ≤ sizeLine) (hr : Room k callerA)
    (hB : Based s₁.heap s₁.heap c Pt #[]) (noP : K.lookup Pt = none)
    (bM : BmB s₁.heap mg) (F : ∀ base : Heap, K.In base → base.Ns mainGlobals mg → BmB base mg → FnOk Pr w K mg base CX0 k fa fd [x] sp) (hbind : ∀ (s : Shared) (u : Value), BindsTo s fd ⟨[u], []⟩ [(x, u)])
    (hsp : ∀ H1 : Hp, H1 Pt = none → SqL K H1 a (ns.map V.int) → sp [.ref a] (upd H1 Pt (.tbl #[])) (fun v _ => v = .bl true) fun _ _ _ => False) :
    codeAny (model Pr w) callerA (.call (.ref fa) ⟨[.ref a], []⟩) (fun r s' => r = .ok (.ret (.bool true)) ∧ OldK s₁.heap s'.heap ∧ s'.os = s₁.os ∧ AllBare s'.gens) s₁ := by
  have rv := vals_ints hi
  have lenV := hi.length
  have hPt : s₁.heap.get? Pt = some { cls := .none, data := .fields #[] } := hB.tab.2
  have aP : a ≠ Pt := fun e => by rw [e, hPt] at ha; cases ha
  have core : ∀ H1 : Hp, Only H1 → SqL K H1 a (ns.map V.int) → HOk Pr w H1 s₁.heap → (∀ b, H1 b ≠ none → b = a) → (H1 a ≠ none → K.lookup a = none) →
      codeAny (model Pr w) callerA (.call (.ref fa) ⟨[.ref a], []⟩) (fun r s' => r = .ok (.ret (.bool true)) ∧ OldK s₁.heap s'.heap ∧ s'.os = s₁.os ∧ AllBare s'.gens) s₁ := by
    intro H1 hO hS hok1 hA hK
    have hn1 : H1 Pt = none := by
      cases q : H1 Pt with
      | none => rfl
      | some u => exact absurd (hA Pt (by rw [q]; simp)) (Ne.symm aP)
    have hok : HOk Pr w (upd H1 Pt (.tbl #[])) s₁.heap := fun b o e => by
      by_cases hbP : b = Pt
      · subst hbP; rw [upd_same] at e; cases e; exact hPt
      · rw [upd_ne hbP] at e
        exact (hok1 b o e).stay (fun _ _ _ q => q) (fun c q => by rw [upd_ne (ne_of_none q hn1)]; exact q) fun c xs q => by rw [upd_ne (ne_of_none q hn1)]; exact q
    have hA' : ∀ b, upd H1 Pt (.tbl #[]) b ≠ none → b = a ∨ b = Pt := fun b hb => by
      by_cases hbP : b = Pt
      · exact .inr hbP
      · rw [upd_ne hbP] at hb; exact .inl (hA b hb)
    have base_of : ∀ {b : Addr} {o : Obj}, s₁.heap.get? b = some o → upd H1 Pt (.tbl #[]) b = none → (hidT s₁.heap (upd H1 Pt (.tbl #[]))).get? b = some o := fun e n => hidT_get e n
    have noA : ∀ {b : Addr} {o : Obj} {es : Array DictEntry} {ep : Nat}, s₁.heap.get? b = some o → o.data = .dict es ep → upd H1 Pt (.tbl #[]) b = none := fun {b o es ep} e d => by
      cases q : upd H1 Pt (.tbl #[]) b with
      | none => rfl
      | some u =>
        rcases hA' b (by rw [q]; simp) with e' | e'
        · subst e'
          rw [ha] at e; cases e
          have d' : Data.seq vs.toArray _ = Data.dict es ep := d
          cases d'
        · subst e'
          rw [hPt] at e; cases e
          cases d
    have nsK : ∀ {b : Addr} {m : Str → Option Value}, s₁.heap.Ns b m → (hidT s₁.heap (upd H1 Pt (.tbl #[]))).Ns b m := fun {b m} ⟨o, es, ep, e, d, r⟩ => ⟨o, es, ep, base_of e (noA e d), d, r⟩
    have hKb : K.In (hidT s₁.heap (upd H1 Pt (.tbl #[]))) := fun b o e => base_of (KX b o e) (by
      cases q : upd H1 Pt (.tbl #[]) b with
      | none => rfl
      | some u =>
        rcases hA' b (by rw [q]; simp) with e' | e'
        · subst e'
          rw [upd_ne aP] at q
          rw [hK (by rw [q]; simp)] at e; cases e
        · rw [e', noP] at e; cases e)
    have hM : Mod K mg (hidT s₁.heap (upd H1 Pt (.tbl #[]))) := ⟨hKb, nsK hns, ⟨mb, nsK hb, hbb⟩, let ⟨mc, h1, h2⟩ := hlim; ⟨mc, nsK h1, h2⟩⟩
    have bB : BmB (hidT s₁.heap (upd H1 Pt (.tbl #[]))) mg := by
      obtain ⟨b, ob, M⟩ := bM
      refine ⟨b, ob, ⟨nsK M.ns, M.name, M.ne, base_of M.obj ?_, M.cls, M.dict, M.data⟩⟩
      cases q : upd H1 Pt (.tbl #[]) b with
      | none => rfl
      | some u =>
        have ho := M.obj
        have hc := M.cls
        rcases hA' b (by rw [q]; simp) with e' | e'
        · rw [e', ha] at ho; cases ho; exact absurd (show Value.type "list" = Value.type "module" from hc) (by decide)
        · rw [e', hPt] at ho; cases ho; exact absurd (show Value.none = Value.type "module" from hc) (by decide)
    have e0 : Env0 Pr w K mg (hidT s₁.heap (upd H1 Pt (.tbl #[]))) callerA [] s₁ (upd H1 Pt (.tbl #[])) := ⟨rfl, hM, fun b o e => of_hidT e, Nat.le_of_eq (hidT_size _ _), trivial, fun b hb => absurd (show b ∈ ([] : List Addr) from hb) (by simp), hok, .of_eq hg⟩
    refine codeAny_mono ((F _ hKb (nsK hns) bB).run callerA [] s₁ (upd H1 Pt (.tbl #[])) ⟨[.ref a], []⟩ [.ref a] [.ref a] _ _ hr e0 (hbind s₁ (.ref a)) (.cons rfl .nil) (hsp H1 hn1 hS)) fun r s' h => ?_
    cases r with
    | error e => exact False.elim h
    | ok fl =>
      cases fl with
      | next => exact False.elim h
      | brk => exact False.elim h
      | cont => exact False.elim h
      | ret u =>
        obtain ⟨v, H', os, bare, un, hok', r', q⟩ := h
        have q' : v = .bl true := q
        subst q'
        obtain rfl : u = Value.bool true := r'
        obtain ⟨more, hm⟩ := un.tbls Pt #[] upd_same
        have hP' : s'.heap.get? Pt = some { cls := .none, data := .fields (#[] ++ more) } := hok' Pt _ hm
        have kp : ∀ b o, b ≠ Pt → s₁.heap.get? b = some o → s'.heap.get? b = some o := fun b o hbP e => by
          cases q : H1 b with
          | none => exact un.keep b o e (by rw [upd_ne hbP]; exact q) (by intro z; exact absurd (show b ∈ ([] : List Addr) from z) (by simp)) (by simp)
          | some u =>
            rcases hO b with z | ⟨ob, xs, z⟩
            · rw [q] at z; cases z
            · have z' : upd H1 Pt (.tbl #[]) b = some (.frz ob (.lst xs)) := by rw [upd_ne hbP]; exact z
              have z2 := un.frzs b ob _ z'
              obtain ⟨e1, _⟩ := hok b _ z'
              obtain ⟨e2, _⟩ := hok' b _ z2
              rw [e] at e1; cases e1
              exact e2
        have hcP : c ≠ Pt := by obtain ⟨_, _, _, _, _, _, _, _, _, _, _, _, _, _, _, _, _, _, _, _, x⟩ := hB.code; exact x
        have tab' : s'.heap.TableAt c Pt (#[] ++ more) := let ⟨⟨o, vs, e, r⟩, _⟩ := hB.tab; ⟨⟨o, vs, kp c o hcP e, r⟩, hP'⟩
        refine ⟨rfl, hB.old.step_table hB.tab hB.tab tab' kp hB.notStatics, os, bare⟩
  cases hk : K.lookup a with
  | some o =>
    have e := KX a o hk
    rw [ha] at e
    cases e
    refine core (fun _ => none) (fun _ => .inl rfl) (.inr ⟨_, vs.toArray, _, hk, rfl, rfl, rfl, by rw [List.size_toArray, lenV]; exact hl, by simpa using rv⟩) (fun b u z => by have z' : (none : Option HO) = some u := z; cases z') (fun b z => absurd rfl z) fun z => absurd rfl z
  | none =>
    refine core (fun b => if b = a then some (.frz { cls := .type "list", data := .seq vs.toArray } (.lst (ns.map V.int))) else none) (fun b => ?_) (.inl (.inr ⟨{ cls := .type "list", data := .seq vs.toArray }, if_pos rfl⟩)) (fun b u z => ?_) (fun b z => ?_) fun _ => hk
    · by_cases hb : b = a
      · exact .inr ⟨_, _, if_pos hb⟩
      · exact .inl (if_neg hb)
    · by_cases hb : b = a
      · have z' := (if_pos hb).symm.trans z
        cases z'
        subst hb
        exact ⟨ha, by rw [List.length_map]; exact hl, vs, _, rv, ha⟩
      · have z' := (if_neg hb).symm.trans z
        cases z'
    · by_cases hb : b = a
      · exact hb
      · exact absurd (if_neg hb) z
structure TblK (K : PySem.W.Frag) (mg : Str → Option Value) (nm : Str) (Pt : Addr) : Prop where
  ex : ∃ a oc od fd sl c ocd odc vs slc, mg nm = some (.ref a) ∧ K.lookup a = some ⟨oc, od, .func fd, sl⟩ ∧ fd.code = .ref c ∧ K.lookup c = some ⟨ocd, odc, .fields vs, slc⟩ ∧ vs[11]? = some (.ref Pt)
  no : K.lookup Pt = none
theorem walk_ofP {l : PySem.W.OpenLaw} {n k : Nat} {q : Program} {loose : List Str} {XP : (Str → Option Value) → Heap → Prop} {YP : World → Heap → Prop} {d d' : DefRec} {K : Params → PySem.W.Frag} {F0 : Addr → FD} {x nm : Str}
    (hn : l.most = some n) (hn2 : n ≤ sizeLine) (hdf : d.params.defaults = []) (hr : Room k callerA)
    (hY : ∀ (w : World) (h : Heap), YP w h → (K w.params).In h) (hf : (recsOf q).find? (fun e => e.name == nm) = some d')
    (F : ∀ (w : World) (mg : Str → Option Value) (fa : Addr) (h : Heap), (K w.params).In h → h.Ns mainGlobals mg → mg d.name = some (.ref fa) →
      ∃ Pt : Addr, TblK (K w.params) mg nm Pt ∧ ∃ fd : FuncData, (∀ (s : Shared) (u : Value), BindsTo s fd ⟨[u], []⟩ [(x, u)]) ∧
        ∀ base : Heap, (K w.params).In base → base.Ns mainGlobals mg → BmB base mg → FnOk l.prog w (K w.params) mg base CX0 k fa fd [x] (spD (K w.params) (F0 Pt)))
    (hsp : ∀ (Pt : Addr) (ns : List Int), ns.length ≤ n → F0 Pt [.d (.list (ns.map .int))] (setM (fun _ => none) Pt mTbl) fun v _ => v = .d (.bool true)) (hmo : ∀ Pt, MoA (F0 Pt)) :
    PySem.W.WalkO q loose XP YP l.row.toRowW d [] (fun f vs => PySem.call f vs) := by
  refine Att.attach_call hn hdf fun w s₀ s₁ mg mb fa o pm cd doc a vs ns G Y ho hd hcd hmg hobj hints hlen hg => ?_
  have KX := hY w _ Y
  obtain ⟨Pt, ⟨⟨a1, oc, od, fd1, sl, c, ocd, odc, vs1, slc, m1, l1, c1, l2, h11⟩, noP⟩, fd, hb, hF⟩ := F w mg fa _ KX G.T.g hmg
  obtain ⟨c2, P2, e2, B⟩ := PySem.W.based_of_top G.T hf m1 (KX _ _ l1) rfl
  rw [c1] at e2
  cases e2
  have hP : P2 = Pt := by
    obtain ⟨⟨o2, vs2, g1, g2, g3, g4⟩, _⟩ := B.tab
    rw [KX _ _ l2] at g1
    cases g1
    cases g3
    rw [h11] at g4
    cases g4
    rfl
  subst hP
  refine law_callP KX G.T.g G.T.b G.T.builtins G.T.nolimit hg hobj hints (Nat.le_trans hlen hn2) hr B noP (PySem.W.bmod_of_top G.T) hF hb fun H1 hn1 hS => ?_
  refine ⟨H1, [.d (.list (ns.map .int))], setM (fun _ => none) P2 mTbl, ⟨fun b u e => ?_, fun b u e => ?_, fun b u e => ?_⟩, .cons (L2.Dp.lst hS (DL.ints_dp ns)) .nil, hmo P2 _ _ _ _ (fun v m' hv v' H' I' _ _ h => ?_) (hsp P2 ns hlen)⟩
  · rw [upd_ne (ne_of_none e hn1)]; exact e
  · rw [setM_ne (ne_of_none e hn1)]
  · by_cases hbP : b = P2
    · subst hbP; rw [setM_same] at e; cases e; exact ⟨_, upd_same, mTbl_mk trivial⟩
    · rw [setM_ne hbP] at e; cases e
  · subst hv
    exact h.bl
end DL
namespace DL
open PySem PySem.Spec PyProof.Rows L2
section
variable {X : Cx} {e st : Expr} {te : TD} {pos p2 : Pos}
def dRev (te ts : TD) : TD := fun δ m Q => te δ m fun x m1 => ts δ m1 fun k m2 => k = .d (.int (-1)) ∧ ∃ xs, x = .d (.list xs) ∧ Q (.d (.list xs.reverse)) m2
end
end DL
namespace DL
open PySem PyProof.Rows
theorem cps_app (x y : Str) : (x ++ y).cps.toList = x.cps.toList ++ y.cps.toList := by
  first | rfl | exact Array.toList_append ..
theorem str_ext {x y : Str} (h : x.cps.toList = y.cps.toList) : x = y := by
  cases x; cases y
  simp only [Str.mk.injEq]
  exact Array.ext' h
theorem cut_uniq {c : Nat} : ∀ {a b r t : List Nat}, c ∉ a → c ∉ b → a ++ c :: r = b ++ c :: t → a = b ∧ r = t
  | [], [], r, t, _, _, h => ⟨rfl, by simpa using h⟩
  | [], y :: b, r, t, _, hb, h => by
    simp only [List.nil_append, List.cons_append, List.cons.injEq] at h
    exact absurd (by rw [← h.1]; exact List.mem_cons_self) hb
  | x :: a, [], r, t, ha, _, h => by
    simp only [List.nil_append, List.cons_append, List.cons.injEq] at h
    exact absurd (by rw [h.1]; exact List.mem_cons_self) ha
  | x :: a, y :: b, r, t, ha, hb, h => by
    simp only [List.cons_append, List.cons.injEq] at h
    obtain ⟨e1, e2⟩ := cut_uniq (fun z => ha (List.mem_cons_of_mem _ z)) (fun z => hb (List.mem_cons_of_mem _ z)) h.2
    exact ⟨by rw [h.1, e1], e2⟩
theorem join_uniq {c : Nat} : ∀ {L M : List Str}, L ≠ [] → M ≠ [] → (∀ p ∈ L, c ∉ p.cps.toList) → (∀ p ∈ M, c ∉ p.cps.toList) → Str.join ⟨#[c]⟩ L = Str.join ⟨#[c]⟩ M → L = M
  | [], _, h, _, _, _, _ => absurd rfl h
  | _, [], _, h, _, _, _ => absurd rfl h
  | [x], [y], _, _, _, _, e => by rw [show x = y from e]
  | [x], y :: z :: r, _, _, hx, _, e => by
    have e : x = y ++ ⟨#[c]⟩ ++ Str.join ⟨#[c]⟩ (z :: r) := e
    exact absurd (by rw [e, cps_app, cps_app]; simp) (hx x List.mem_cons_self)
  | x :: z :: r, [y], _, _, _, hy, e => by
    have e : x ++ ⟨#[c]⟩ ++ Str.join ⟨#[c]⟩ (z :: r) = y := e
    exact absurd (by rw [← e, cps_app, cps_app]; simp) (hy y List.mem_cons_self)
  | x :: z :: r, y :: w :: t, _, _, hx, hy, e => by
    have e : x ++ ⟨#[c]⟩ ++ Str.join ⟨#[c]⟩ (z :: r) = y ++ ⟨#[c]⟩ ++ Str.join ⟨#[c]⟩ (w :: t) := e
    have e2 := congrArg (fun s : Str => s.cps.toList) e
    simp only [cps_app, List.append_assoc] at e2
    obtain ⟨e3, e4⟩ := cut_uniq (hx x List.mem_cons_self) (hy y List.mem_cons_self) (by simpa using e2)
    rw [str_ext e3, join_uniq (by simp) (by simp) (fun p hp => hx p (List.mem_cons_of_mem _ hp)) (fun p hp => hy p (List.mem_cons_of_mem _ hp)) (str_ext e4)]
theorem split_join {c : Nat} {M : List Str} (h : M ≠ []) (hM : ∀ p ∈ M, c ∉ p.cps.toList) : Txt.split (Str.join ⟨#[c]⟩ M) ⟨#[c]⟩ = M := by
  refine join_uniq (fun e => ?_) h (StrLaws.split_free _ c) hM (StrLaws.join_split _ _)
  have := split_pos (Str.join ⟨#[c]⟩ M) ⟨#[c]⟩
  rw [e] at this
  exact absurd this (by decide)
end DL
namespace DL
open PySem PyProof.Rows
def figs (n : Nat) : List Nat := (Nat.toDigits 10 n).map Char.toNat
theorem fig_one {n : Nat} (h : n < 10) : (Nat.digitChar n).toNat = 48 + n := by
  rcases (show n = 0 ∨ n = 1 ∨ n = 2 ∨ n = 3 ∨ n = 4 ∨ n = 5 ∨ n = 6 ∨ n = 7 ∨ n = 8 ∨ n = 9 by omega) with rfl | rfl | rfl | rfl | rfl | rfl | rfl | rfl | rfl | rfl <;> rfl
theorem figs_lt {n : Nat} (h : n < 10) : figs n = [48 + n] := by
  unfold figs
  rw [Nat.toDigits_of_lt_base h, List.map_cons, List.map_nil, fig_one h]
theorem figs_ge {n : Nat} (h : 10 ≤ n) : figs n = figs (n / 10) ++ [48 + n % 10] := by
  unfold figs
  rw [Nat.toDigits_of_base_le (by decide) h, List.map_append, List.map_cons, List.map_nil, fig_one (Nat.mod_lt _ (by decide))]
theorem figs_ne (n : Nat) : figs n ≠ [] := by
  by_cases h : n < 10
  · rw [figs_lt h]; simp
  · rw [figs_ge (by omega)]; simp
theorem figs_digits (n : Nat) : ∀ c ∈ figs n, 48 ≤ c ∧ c ≤ 57 := by
  induction n using Nat.strongRecOn with
  | ind n ih =>
    by_cases h : n < 10
    · rw [figs_lt h]; intro c hc; simp at hc; omega
    · rw [figs_ge (by omega)]
      intro c hc
      rcases List.mem_append.mp hc with g | g
      · exact ih (n / 10) (by omega) c g
      · simp at g; omega
theorem figs_val (n : Nat) : (figs n).foldl (fun acc c => acc * 10 + (c - 48)) 0 = n := by
  induction n using Nat.strongRecOn with
  | ind n ih =>
    by_cases h : n < 10
    · rw [figs_lt h]; simp
    · rw [figs_ge (by omega), List.foldl_append, ih (n / 10) (by omega)]
      simp
      omega
theorem figs_head (n : Nat) : (figs n).head? = some 48 → n = 0 := by
  induction n using Nat.strongRecOn with
  | ind n ih =>
    by_cases h : n < 10
    · rw [figs_lt h]; simp
    · rw [figs_ge (by omega)]
      intro hc
      have hc : (figs (n / 10)).head? = some 48 := by
        have hne := figs_ne (n / 10)
        revert hc
        generalize figs (n / 10) = l at hne ⊢
        cases l with
        | nil => exact absurd rfl hne
        | cons a l => simp
      have := ih (n / 10) (by omega) hc
      omega
theorem shown_nat (n : Nat) : (Str.ofString (toString ((n : Nat) : Int))).cps.toList = figs n := by
  have e : toString ((n : Nat) : Int) = Nat.repr n := rfl
  rw [e, Str.ofString_eq_toList]
  show ((Nat.repr n).toList.map _) = _
  rw [Nat.toList_repr]
  rfl
theorem shown_neg (n : Nat) : (Str.ofString (toString (Int.negSucc n))).cps.toList = 45 :: figs (n + 1) := by
  have e : toString (Int.negSucc n) = "-" ++ Nat.repr (n + 1) := rfl
  rw [e, Str.ofString_eq_toList]
  show (("-" ++ Nat.repr (n + 1)).toList.map _) = _
  rw [String.toList_append, Nat.toList_repr, List.map_append]
  rfl
theorem shown_reads (n : Int) (h : (Str.ofString (toString n)).length ≤ 4300) : intText? (Str.ofString (toString n)) = some n := by
  cases n with
  | ofNat k =>
    have e := shown_nat k
    rw [intText_digits (x := Str.ofString (toString (Int.ofNat k))) (by rw [show (Str.ofString (toString (Int.ofNat k))).cps.toList = figs k from e]; exact figs_digits k) (by rw [show (Str.ofString (toString (Int.ofNat k))).cps.toList = figs k from e]; exact figs_ne k) h]
    rw [show (Str.ofString (toString (Int.ofNat k))).cps.toList = figs k from e]
    exact congrArg (fun z : Nat => some (z : Int)) (figs_val k)
  | negSucc k =>
    rw [intText_neg (shown_neg k) (figs_digits _) (figs_ne _) h]
    have := figs_val (k + 1)
    exact congrArg (fun z : Nat => some (-(z : Int))) this
end DL
namespace Sp
def c1 (a n : Int) : Int := if a < n then 1 else 0
def cnt (u v : Int) : Int := c1 (po (u + 1) v) (po u v) + c1 (po u (v + 1)) (po u v) + c1 (po (u + -1) v) (po u v) + c1 (po u (v + -1)) (po u v)
theorem c1_lt {a n : Int} (h : a < n) : c1 a n = 1 := by unfold c1; rw [if_pos h]
theorem c1_ge {a n : Int} (h : ¬ a < n) : c1 a n = 0 := by unfold c1; rw [if_neg h]
theorem sq_bound (k : Int) (h : 0 ≤ k) : 4 * (k + 1) * (k + 1) = 4 * k * k + 8 * k + 4 := by
  rw [Int.mul_add, Int.mul_add, Int.add_mul]; omega
theorem sq_less (k : Int) : 4 * (k - 1) * (k - 1) = 4 * k * k - 8 * k + 4 := by
  rw [Int.mul_sub, Int.mul_sub, Int.sub_mul]; omega
theorem po_out {x y k n : Int} (hk : 0 ≤ k) (hr : ring x y = k + 1) (hn : n ≤ 4 * k * k + 4 * k) : n < po x y := by
  obtain ⟨_, b, _, d⟩ := po_bounds x y
  rw [hr] at b d
  have := d (by omega)
  have e := sq_bound k hk
  omega
theorem po_in {x y k n : Int} (hk : 1 ≤ k) (hr : ring x y ≤ k - 1) (hn : 4 * k * k - 4 * k < n) : po x y < n := by
  obtain ⟨_, _, c, _⟩ := po_bounds x y
  have h0 := (ring_cases x y).1
  have m : 4 * ring x y * ring x y ≤ 4 * (k - 1) * (k - 1) := Int.mul_le_mul (by omega) hr h0 (by omega)
  have e := sq_less k
  omega
theorem ring_is {x y k : Int} (h : (x = k ∨ x = -k ∨ y = k ∨ y = -k) ∧ -k ≤ x ∧ x ≤ k ∧ -k ≤ y ∧ y ≤ k) : ring x y = k := by
  have b := ring_cases x y
  omega
theorem po_low {x y k : Int} (h : y = -k) (h1 : -k ≤ x) (h2 : x ≤ k) : po x y = 4 * k * k + 3 * k + x := by
  obtain ⟨_, e⟩ := po_of (x := x) (y := y) (k := k) (by omega) (.inl ⟨h, h1, h2⟩)
  rw [e, if_pos h]
theorem po_left {x y k : Int} (h : x = -k) (h1 : -k < y) (h2 : y ≤ k) : po x y = 4 * k * k + k - y := by
  obtain ⟨_, e⟩ := po_of (x := x) (y := y) (k := k) (by omega) (.inr (.inl ⟨h, h1, h2⟩))
  rw [e, if_neg (by omega), if_pos h]
theorem po_top {x y k : Int} (h : y = k) (h1 : -k < x) (h2 : x ≤ k) : po x y = 4 * k * k - k - x := by
  obtain ⟨_, e⟩ := po_of (x := x) (y := y) (k := k) (by omega) (.inr (.inr (.inl ⟨h, h1, h2⟩)))
  rw [e, if_neg (by omega), if_neg (by omega), if_pos h]
theorem po_right {x y k : Int} (h : x = k) (h1 : -k < y) (h2 : y < k) : po x y = 4 * k * k - 3 * k + y := by
  obtain ⟨_, e⟩ := po_of (x := x) (y := y) (k := k) (by omega) (.inr (.inr (.inr ⟨h, h1, h2⟩)))
  rw [e, if_neg (by omega), if_neg (by omega), if_neg (by omega)]
theorem beside (u v : Int) : (po (u + 1) v = po u v + 1 ∨ po u (v + 1) = po u v + 1 ∨ po (u + -1) v = po u v + 1 ∨ po u (v + -1) = po u v + 1) ∧
    (0 < po u v → (po (u + 1) v = po u v - 1 ∨ po u (v + 1) = po u v - 1 ∨ po (u + -1) v = po u v - 1 ∨ po u (v + -1) = po u v - 1)) ∧
    (0 < po u v → ∀ t, IsRoot (4 * po u v - 1) t → cnt u v = if (t + 1) * (t + 1) / 4 = po u v then 1 else 2) ∧ (po u v = 0 → cnt u v = 0) := by
  obtain ⟨k, hr, hk, h⟩ := po_sides u v
  rcases (show k ≤ 0 ∨ 0 < k by omega) with kz | kp
  · have k0 : k = 0 := by omega
    subst k0
    have hu : u = 0 ∧ v = 0 := by omega
    obtain ⟨rfl, rfl⟩ := hu
    have e0 : po 0 0 = 0 := by decide
    have e1 : po 1 0 = 1 := by decide
    have e2 : po 0 1 = 3 := by decide
    have e3 : po (-1) 0 = 5 := by decide
    have e4 : po 0 (-1) = 7 := by decide
    refine ⟨.inl (by decide), fun h => absurd h (by decide), fun h => absurd h (by decide), fun _ => by decide⟩
  have b := po_bounds u v
  rw [hr] at b
  have hpos : 0 < po u v := by
    have h1 := b.2.2.2 kp
    have h2 : 4 * k * 1 ≤ 4 * k * k := Int.mul_le_mul_of_nonneg_left (by omega) (by omega)
    omega
  -- a corner, by its square
  have cor : ∀ w : Int, 0 < w → (w * w = 4 * po u v ∨ w * w = 4 * po u v + 1) → ∀ t, IsRoot (4 * po u v - 1) t → (t + 1) * (t + 1) / 4 = po u v := by
    intro w w0 hw t ht
    have hw1 : IsRoot (4 * po u v - 1) (w - 1) := by
      refine ⟨by omega, ?_, ?_⟩
      · have : (w - 1) * (w - 1) = w * w - 2 * w + 1 := by rw [Int.mul_sub, Int.sub_mul]; omega
        have ww : 0 < w * w := Int.mul_pos w0 w0
        rcases (show w = 1 ∨ 2 ≤ w by omega) with rfl | h2
        · exfalso; simp at hw; omega
        · omega
      · rw [Int.sub_add_cancel]; omega
    have := root_unique ht hw1
    subst this
    rw [Int.sub_add_cancel]
    omega
  -- none, between two squares
  have noc : ∀ w : Int, 0 ≤ w → w * w < 4 * po u v → 4 * po u v + 4 ≤ (w + 1) * (w + 1) → ∀ t, IsRoot (4 * po u v - 1) t → ¬ (t + 1) * (t + 1) / 4 = po u v := by
    intro w w0 h1 h2 t ht
    have hw1 : IsRoot (4 * po u v - 1) w := ⟨w0, by omega, by omega⟩
    have := root_unique ht hw1
    subst this
    omega
  have s1 : (4 * k - 2) * (4 * k - 2) = 4 * (4 * k * k) - 16 * k + 4 := by
    have : (4 * k - 2) * (4 * k - 2) = 4 * k * (4 * k) - 16 * k + 4 := by rw [Int.mul_sub, Int.sub_mul]; omega
    have e : 4 * k * (4 * k) = 4 * (4 * k * k) := Int.mul_left_comm (4 * k) 4 k
    omega
  have s2 : (4 * k - 1) * (4 * k - 1) = 4 * (4 * k * k) - 8 * k + 1 := by
    have : (4 * k - 1) * (4 * k - 1) = 4 * k * (4 * k) - 8 * k + 1 := by rw [Int.mul_sub, Int.sub_mul]; omega
    have e : 4 * k * (4 * k) = 4 * (4 * k * k) := Int.mul_left_comm (4 * k) 4 k
    omega
  have s3 : (4 * k) * (4 * k) = 4 * (4 * k * k) := Int.mul_left_comm (4 * k) 4 k
  have s4 : (4 * k + 1) * (4 * k + 1) = 4 * (4 * k * k) + 8 * k + 1 := by rw [Int.mul_add, Int.add_mul, s3]; omega
  have s5 : (4 * k + 2) * (4 * k + 2) = 4 * (4 * k * k) + 16 * k + 4 := by rw [Int.mul_add, Int.add_mul, s3]; omega
  have kk : 4 * (k + 1) * (k + 1) = 4 * k * k + 8 * k + 4 := sq_bound k hk
  refine ⟨?_, fun _ => ?_, fun _ t ht => ?_, fun h0 => by omega⟩
  · -- the next one
    rcases h with ⟨h1, h2, h3, h⟩ | ⟨h1, h2, h3, h⟩ | ⟨h1, h2, h3, h⟩ | ⟨h1, h2, h3, h⟩
    · left
      rcases (show u < k ∨ u = k by omega) with hl | hl
      · rw [po_low (x := u + 1) (k := k) h1 (by omega) (by omega)]; omega
      · rw [po_right (x := u + 1) (k := k + 1) (by omega) (by omega) (by omega)]; omega
    · right; right; right
      rcases (show -k < v + -1 ∨ v + -1 = -k by omega) with hl | hl
      · rw [po_left (x := u) (k := k) h1 (by omega) (by omega)]; omega
      · rw [po_low (x := u) (k := k) hl (by omega) (by omega)]; omega
    · right; right; left
      rcases (show -k < u + -1 ∨ u + -1 = -k by omega) with hl | hl
      · rw [po_top (x := u + -1) (k := k) h1 (by omega) (by omega)]; omega
      · rw [po_left (x := u + -1) (k := k) hl (by omega) (by omega)]; omega
    · right; left
      rcases (show v + 1 < k ∨ v + 1 = k by omega) with hl | hl
      · rw [po_right (y := v + 1) (k := k) h1 (by omega) (by omega)]; omega
      · rw [po_top (y := v + 1) (k := k) hl (by omega) (by omega)]; omega
  · -- the one ahead
    rcases h with ⟨h1, h2, h3, h⟩ | ⟨h1, h2, h3, h⟩ | ⟨h1, h2, h3, h⟩ | ⟨h1, h2, h3, h⟩
    · rcases (show -k < u ∨ u = -k by omega) with hl | hl
      · right; right; left
        rw [po_low (x := u + -1) (k := k) h1 (by omega) (by omega)]; omega
      · right; left
        rw [po_left (y := v + 1) (k := k) hl (by omega) (by omega)]; omega
    · rcases (show v < k ∨ v = k by omega) with hl | hl
      · right; left
        rw [po_left (y := v + 1) (k := k) h1 (by omega) (by omega)]; omega
      · left
        rw [po_top (x := u + 1) (k := k) hl (by omega) (by omega)]; omega
    · rcases (show u < k ∨ u = k by omega) with hl | hl
      · left
        rw [po_top (x := u + 1) (k := k) h1 (by omega) (by omega)]; omega
      · right; right; right
        rw [po_right (y := v + -1) (k := k) hl (by omega) (by omega)]; omega
    · rcases (show -k + 1 < v ∨ v = -k + 1 by omega) with hl | hl
      · right; right; right
        rw [po_right (y := v + -1) (k := k) h1 (by omega) (by omega)]; omega
      · right; right; left
        have e := sq_less k
        rw [po_low (x := u + -1) (k := k - 1) (by omega) (by omega) (by omega)]; omega
  · -- how many are less
    unfold cnt
    rcases h with ⟨h1, h2, h3, h⟩ | ⟨h1, h2, h3, h⟩ | ⟨h1, h2, h3, h⟩ | ⟨h1, h2, h3, h⟩
    · -- low
      have o4 : ¬ po u (v + -1) < po u v := by have := po_out (n := po u v) hk (ring_is (x := u) (y := v + -1) (k := k + 1) (by omega)) (by omega); omega
      rcases (show u = -k ∨ (-k < u ∧ u < k) ∨ u = k by omega) with hl | hl | hl
      · have o1 : po (u + 1) v = po u v + 1 := by rw [po_low (x := u + 1) (k := k) h1 (by omega) (by omega)]; omega
        have o3 : ¬ po (u + -1) v < po u v := by have := po_out (n := po u v) hk (ring_is (x := u + -1) (y := v) (k := k + 1) (by omega)) (by omega); omega
        have o2 : po u (v + 1) = po u v - 1 := by rw [po_left (y := v + 1) (k := k) hl (by omega) (by omega)]; omega
        rw [if_pos (cor (4 * k + 1) (by omega) (.inr (by omega)) t ht), c1_ge (by omega), c1_lt (by omega), c1_ge o3, c1_ge o4]; rfl
      · have o1 : po (u + 1) v = po u v + 1 := by rw [po_low (x := u + 1) (k := k) h1 (by omega) (by omega)]; omega
        have o3 : po (u + -1) v = po u v - 1 := by rw [po_low (x := u + -1) (k := k) h1 (by omega) (by omega)]; omega
        have o2 : po u (v + 1) < po u v := po_in (k := k) (by omega) (by have := ring_cases u (v + 1); omega) (by omega)
        rw [if_neg (noc (4 * k + 1) (by omega) (by omega) (by rw [show 4 * k + 1 + 1 = 4 * k + 2 by omega]; omega) t ht), c1_ge (by omega), c1_lt o2, c1_lt (by omega), c1_ge o4]; rfl
      · have o1 : ¬ po (u + 1) v < po u v := by have := po_out (n := po u v) hk (ring_is (x := u + 1) (y := v) (k := k + 1) (by omega)) (by omega); omega
        have o3 : po (u + -1) v = po u v - 1 := by rw [po_low (x := u + -1) (k := k) h1 (by omega) (by omega)]; omega
        have o2 : po u (v + 1) < po u v := by
          rw [po_right (y := v + 1) (k := k) hl (by omega) (by omega)]; omega
        rw [if_neg (noc (4 * k + 1) (by omega) (by omega) (by rw [show 4 * k + 1 + 1 = 4 * k + 2 by omega]; omega) t ht), c1_ge o1, c1_lt o2, c1_lt (by omega), c1_ge o4]; rfl
    · -- left
      have o3 : ¬ po (u + -1) v < po u v := by have := po_out (n := po u v) hk (ring_is (x := u + -1) (y := v) (k := k + 1) (by omega)) (by omega); omega
      have o4 : po u (v + -1) = po u v + 1 := by
        rcases (show -k < v + -1 ∨ v + -1 = -k by omega) with hl | hl
        · rw [po_left (x := u) (k := k) h1 (by omega) (by omega)]; omega
        · rw [po_low (x := u) (k := k) hl (by omega) (by omega)]; omega
      rcases (show v = k ∨ v < k by omega) with hl | hl
      · have o2 : ¬ po u (v + 1) < po u v := by have := po_out (n := po u v) hk (ring_is (x := u) (y := v + 1) (k := k + 1) (by omega)) (by omega); omega
        have o1 : po (u + 1) v = po u v - 1 := by rw [po_top (x := u + 1) (k := k) hl (by omega) (by omega)]; omega
        rw [if_pos (cor (4 * k) (by omega) (.inl (by omega)) t ht), c1_lt (by omega), c1_ge o2, c1_ge o3, c1_ge (by omega)]; rfl
      · have o2 : po u (v + 1) = po u v - 1 := by rw [po_left (y := v + 1) (k := k) h1 (by omega) (by omega)]; omega
        have o1 : po (u + 1) v < po u v := po_in (k := k) (by omega) (by have := ring_cases (u + 1) v; omega) (by omega)
        rw [if_neg (noc (4 * k) (by omega) (by omega) (by omega) t ht), c1_lt o1, c1_lt (by omega), c1_ge o3, c1_ge (by omega)]; rfl
    · -- top
      have o2 : ¬ po u (v + 1) < po u v := by have := po_out (n := po u v) hk (ring_is (x := u) (y := v + 1) (k := k + 1) (by omega)) (by omega); omega
      have o3 : po (u + -1) v = po u v + 1 := by
        rcases (show -k < u + -1 ∨ u + -1 = -k by omega) with hl | hl
        · rw [po_top (x := u + -1) (k := k) h1 (by omega) (by omega)]; omega
        · rw [po_left (x := u + -1) (k := k) hl (by omega) (by omega)]; omega
      rcases (show u = k ∨ u < k by omega) with hl | hl
      · have o1 : ¬ po (u + 1) v < po u v := by have := po_out (n := po u v) hk (ring_is (x := u + 1) (y := v) (k := k + 1) (by omega)) (by omega); omega
        have o4 : po u (v + -1) = po u v - 1 := by rw [po_right (y := v + -1) (k := k) hl (by omega) (by omega)]; omega
        rw [if_pos (cor (4 * k - 1) (by omega) (.inr (by omega)) t ht), c1_ge o1, c1_ge o2, c1_ge (by omega), c1_lt (by omega)]; rfl
      · have o1 : po (u + 1) v = po u v - 1 := by rw [po_top (x := u + 1) (k := k) h1 (by omega) (by omega)]; omega
        have o4 : po u (v + -1) < po u v := po_in (k := k) (by omega) (by have := ring_cases u (v + -1); omega) (by omega)
        rw [if_neg (noc (4 * k - 1) (by omega) (by omega) (by rw [Int.sub_add_cancel]; omega) t ht), c1_lt (by omega), c1_ge o2, c1_ge (by omega), c1_lt o4]; rfl
    · -- right
      have o1 : ¬ po (u + 1) v < po u v := by have := po_out (n := po u v) hk (ring_is (x := u + 1) (y := v) (k := k + 1) (by omega)) (by omega); omega
      have o2 : po u (v + 1) = po u v + 1 := by
        rcases (show v + 1 < k ∨ v + 1 = k by omega) with hl | hl
        · rw [po_right (y := v + 1) (k := k) h1 (by omega) (by omega)]; omega
        · rw [po_top (y := v + 1) (k := k) hl (by omega) (by omega)]; omega
      have o3 : po (u + -1) v < po u v := po_in (k := k) (by omega) (by have := ring_cases (u + -1) v; omega) (by omega)
      rcases (show v = -k + 1 ∨ -k + 1 < v by omega) with hl | hl
      · have o4 : ¬ po u (v + -1) < po u v := by
          rw [po_low (y := v + -1) (k := k) (by omega) (by omega) (by omega)]; omega
        rw [if_pos (cor (4 * k - 2) (by omega) (.inl (by omega)) t ht), c1_ge o1, c1_ge (by omega), c1_lt o3, c1_ge o4]; rfl
      · have o4 : po u (v + -1) = po u v - 1 := by rw [po_right (y := v + -1) (k := k) h1 (by omega) (by omega)]; omega
        rw [if_neg (noc (4 * k - 2) (by omega) (by omega) (by rw [show 4 * k - 2 + 1 = 4 * k - 1 by omega]; omega) t ht), c1_ge o1, c1_ge (by omega), c1_lt o3, c1_lt (by omega)]; rfl
end Sp
namespace Sp
theorem at_ring {q : Nat} (hq : q < 4) (r : Bool) (x y : Int) : 4 * ring x y * ring x y - 4 * ring x y ≤ at' q r x y ∧ at' q r x y ≤ 4 * ring x y * ring x y + 4 * ring x y ∧ (0 < ring x y → 4 * ring x y * ring x y - 4 * ring x y < at' q r x y) := by
  obtain ⟨_, b, c, d⟩ := po_bounds (tpx q r x y) (tpy q r x y)
  rw [ring_at hq] at b c d
  exact ⟨b, c, d⟩
theorem at_far {q : Nat} (hq : q < 4) (r : Bool) {x y : Int} (h : ring x y < 2 ^ 57) : at' q r x y < 2 ^ 118 := by
  obtain ⟨_, c, _⟩ := at_ring hq r x y
  have h0 := (ring_cases x y).1
  generalize ring x y = k at *
  have : 4 * k * k ≤ 4 * 2 ^ 57 * 2 ^ 57 := Int.mul_le_mul (by omega) (by omega) h0 (by decide)
  omega
theorem corner_gap (p : Int) (hp : 0 ≤ p) : (p + 1) * (p + 1) / 4 - p * p / 4 = p / 2 + (if p % 2 = 0 then 0 else 1) := by
  rcases Int.emod_two_eq p with h | h
  · obtain ⟨k, rfl⟩ : ∃ k, p = 2 * k := ⟨p / 2, by omega⟩
    have e0 : 2 * k * (2 * k) = 4 * (k * k) := by rw [Int.mul_left_comm, Int.mul_assoc, ← Int.mul_assoc]; rfl
    have e1 : (2 * k + 1) * (2 * k + 1) = 4 * (k * k) + 4 * k + 1 := by rw [Int.mul_add, Int.add_mul]; omega
    rw [if_pos h]
    omega
  · obtain ⟨k, rfl⟩ : ∃ k, p = 2 * k + 1 := ⟨p / 2, by omega⟩
    have e0 : 2 * k * (2 * k) = 4 * (k * k) := by rw [Int.mul_left_comm, Int.mul_assoc, ← Int.mul_assoc]; rfl
    have e1 : (2 * k + 1) * (2 * k + 1) = 4 * (k * k) + 4 * k + 1 := by rw [Int.mul_add, Int.add_mul]; omega
    have e2 : (2 * k + 1 + 1) * (2 * k + 1 + 1) = 4 * (k * k) + 8 * k + 4 := by
      rw [show 2 * k + 1 + 1 = 2 * k + 2 by omega, Int.mul_add, Int.add_mul]; omega
    rw [if_neg (by omega)]
    omega
end Sp
namespace K
open PySem L2 DL Sp
def DeckIs (o : MO) (c : Nat) : Prop := ∃ (ns : List Int) (i1 i2 i3 i4 : Int), o = .lst [.d (.list (ns.map .int)), I i1, I i2, I i3, I i4] ∧ ns.length ≤ 63 ∧ 0 ≤ i1 ∧ i1 ≤ ns.length ∧ 0 ≤ i3 ∧ i3 ≤ c
theorem DeckIs.mono {o : MO} {c d : Nat} (h : DeckIs o c) (l : c ≤ d) : DeckIs o d := by
  obtain ⟨ns, i1, i2, i3, i4, e, h1, h2, h3, h4, h5⟩ := h
  exact ⟨ns, i1, i2, i3, i4, e, h1, h2, h3, h4, by omega⟩
def F__law_mix : FD := fun ds m Q => ∃ c k, ds = [I c, I k] ∧ (0 ≤ k ∧ k < 2 ^ 40) ∧ ∀ r, 0 ≤ r → r < 2 ^ 31 → Q (I r) m
def F__law_deck : FD := fun ds m Q => ∃ ns : List Int, ds = [.d (.list (ns.map .int))] ∧ ns.length ≤ 63 ∧ ∀ p o, m p = none → DeckIs o 0 → Q (.r p) (setM m p o)
def F__law_next : FD := fun ds m Q => ∃ a many o c, ds = [.r a, I many] ∧ (0 < many ∧ many < 2 ^ 150) ∧ m a = some o ∧ DeckIs o c ∧ c < 2 ^ 38 ∧ ∀ r o', 0 ≤ r → r < many → DeckIs o' (c + 1) → Q (I r) (setM m a o')
def F__law_great : FD := fun ds m Q => ∃ a many o c, ds = [.r a, I many] ∧ (0 < many ∧ many < 2 ^ 150) ∧ m a = some o ∧ DeckIs o c ∧ c < 2 ^ 37 ∧ ∀ r o', 0 ≤ r → r < many → DeckIs o' (c + 4) → Q (I r) (setM m a o')
def F__law_spiral : FD := fun ds m Q => ∃ a o c, ds = [.r a] ∧ m a = some o ∧ DeckIs o c ∧ c < 2 ^ 36 ∧ ∀ s q r o', (-(10 ^ 18) ≤ s ∧ s ≤ 10 ^ 18) → q < 4 → DeckIs o' (c + 9) → Q (spi s q r) (setM m a o')
def F__law_far : FD := fun ds m Q => ∃ a most o c, ds = [.r a, I most] ∧ (0 < most ∧ most < 2 ^ 100) ∧ m a = some o ∧ DeckIs o c ∧ c < 2 ^ 36 ∧ ∀ v o', 0 ≤ v → v < most → DeckIs o' (c + 12) → Q (I v) (setM m a o')
theorem mo__law_mix : MoA F__law_mix := fun _ _ _ _ h ⟨c, k, e, l, z⟩ => ⟨c, k, e, l, fun r h1 h2 => h _ _ (z r h1 h2)⟩
theorem mo__law_deck : MoA F__law_deck := fun _ _ _ _ h ⟨ns, e, l, z⟩ => ⟨ns, e, l, fun p o h1 h2 => h _ _ (z p o h1 h2)⟩
theorem mo__law_next : MoA F__law_next := fun _ _ _ _ h ⟨a, mm, o, c, e, l, h1, h2, h3, z⟩ => ⟨a, mm, o, c, e, l, h1, h2, h3, fun r o' a b d => h _ _ (z r o' a b d)⟩
theorem mo__law_great : MoA F__law_great := fun _ _ _ _ h ⟨a, mm, o, c, e, l, h1, h2, h3, z⟩ => ⟨a, mm, o, c, e, l, h1, h2, h3, fun r o' a b d => h _ _ (z r o' a b d)⟩
theorem mo__law_spiral : MoA F__law_spiral := fun _ _ _ _ h ⟨a, o, c, e, h1, h2, h3, z⟩ => ⟨a, o, c, e, h1, h2, h3, fun s q r o' a b d => h _ _ (z s q r o' a b d)⟩
theorem mo__law_far : MoA F__law_far := fun _ _ _ _ h ⟨a, mm, o, c, e, l, h1, h2, h3, z⟩ => ⟨a, mm, o, c, e, l, h1, h2, h3, fun r o' a b d => h _ _ (z r o' a b d)⟩
theorem at_mem {ns : List Int} {r : Int} (h0 : 0 ≤ r) (h1 : r < ns.length) : ∃ v ∈ ns, atI (ns.map PyData.int) r = some (.int v) := by
  have hlt : r.toNat < ns.length := by omega
  exact ⟨ns[r.toNat], List.getElem_mem hlt, atI_of (k := r.toNat) (by omega) (by rw [List.getElem?_map, List.getElem?_eq_getElem hlt]; rfl)⟩
theorem hd_at {r : Int} (h0 : 0 ≤ r) (h1 : r < 4) : ∃ c, atI (Str.ofString "enws").cps.toList r = some c ∧ (⟨#[c]⟩ : Str) = hdS r.toNat := by
  rcases (show r = 0 ∨ r = 1 ∨ r = 2 ∨ r = 3 by omega) with rfl | rfl | rfl | rfl
  · exact ⟨101, by decide +kernel, by decide +kernel⟩
  · exact ⟨110, by decide +kernel, by decide +kernel⟩
  · exact ⟨119, by decide +kernel, by decide +kernel⟩
  · exact ⟨115, by decide +kernel, by decide +kernel⟩
theorem tn_at {r : Int} (h0 : 0 ≤ r) (h1 : r < 2) : ∃ c, atI (Str.ofString "lr").cps.toList r = some c ∧ (⟨#[c]⟩ : Str) = tnS (decide (r = 1)) := by
  rcases (show r = 0 ∨ r = 1 by omega) with rfl | rfl
  · exact ⟨108, by decide +kernel, by decide +kernel⟩
  · exact ⟨114, by decide +kernel, by decide +kernel⟩
theorem len_enws : (Str.ofString "enws").length ≤ 16777216 := by decide +kernel
theorem len_lr : (Str.ofString "lr").length ≤ 16777216 := by decide +kernel
end K
namespace KT
open PySem L2 DL Sp K
def shw (n : Int) : Str := Str.ofString (toString n)
def isFig (c : Nat) : Bool := decide (48 ≤ c ∧ c ≤ 57)
theorem occ_fig (c : Nat) : occ ⟨#[c]⟩ "0123456789" = isFig c := by
  unfold occ isFig
  rw [StrLaws.found_one]
  have e : (Str.ofString "0123456789").cps.toList = [48, 49, 50, 51, 52, 53, 54, 55, 56, 57] := by decide +kernel
  rw [e]
  congr 1
  simp only [List.mem_cons, List.not_mem_nil, or_false, eq_iff_iff]
  omega
def bare (z : Str) : List Nat := match z.cps.toList with | 45 :: l => l | l => l
theorem rmp (z : Str) : (Txt.removeprefix z "-").cps.toList = bare z := by
  rw [StrLaws.removeprefix_eq]
  have e : Str.ofString "-" = ⟨#[45]⟩ := by decide +kernel
  rw [e]
  have h1 := StrLaws.subAt_one z 45 0
  rw [show (⟨#[45]⟩ : Str).length = 1 from rfl] at h1 ⊢
  unfold bare
  by_cases h : z.cps.toList[0]? = some 45
  · obtain ⟨a, b⟩ := h1.mpr h
    rw [decide_eq_true a, b]
    simp only [Bool.and_self, if_true]
    have hz : z.length = z.cps.toList.length := by simp [Str.length]
    rw [hz]
    cases e : z.cps.toList with
    | nil => rw [e] at h; cases h
    | cons c l =>
      rw [e] at h
      have h : c = 45 := by simpa using h
      subst h
      simp
  · rw [if_neg (fun g => h (h1.mp (by simpa using g)))]
    cases e : z.cps.toList with
    | nil => rfl
    | cons c l =>
      rw [e] at h
      have h : c ≠ 45 := by simpa using h
      split
      · next g => cases g; exact absurd rfl h
      · rfl
def isW (z : Str) : Bool := z == "0" || (!(bare z).isEmpty && (bare z).head? != some 48 && (bare z).all isFig)
theorem bare_shown (n : Int) : bare (shw n) = figs n.natAbs := by
  unfold bare shw
  cases n with
  | ofNat k =>
    have e := shown_nat k
    rw [show (Str.ofString (toString (Int.ofNat k))).cps.toList = figs k from e]
    show _ = figs k
    have hd := figs_digits k
    generalize figs k = l at hd
    match l, hd with
    | [], _ => rfl
    | c :: l, hd =>
      have := hd c (by simp)
      split
      · next h => cases h; omega
      · rfl
  | negSucc k => rw [shown_neg k]; rfl
theorem isW_shown (n : Int) : isW (shw n) = true := by
  unfold isW
  rw [bare_shown]
  by_cases h : n = 0
  · subst h; decide +kernel
  · have h1 := figs_ne n.natAbs
    have h2 : (figs n.natAbs).head? ≠ some 48 := fun e => h (by have := figs_head _ e; omega)
    have h3 : (figs n.natAbs).all isFig = true := by
      rw [List.all_eq_true]; intro c hc; have := figs_digits _ c hc; unfold isFig; simp; omega
    have h4 : (figs n.natAbs).isEmpty = false := by cases e : figs n.natAbs with | nil => exact absurd e h1 | cons a l => rfl
    rw [h3, h4]
    simp [h2]
def spt (s : Int) (q : Nat) (r : Bool) : Str := Str.join ⟨#[32]⟩ [shw s, hdS q, tnS r]
theorem spt_split (s : Int) (q : Nat) (r : Bool) : Txt.split (spt s q r) " " = [shw s, hdS q, tnS r] := by
  have e : Str.ofString " " = ⟨#[32]⟩ := by decide +kernel
  rw [e]
  refine split_join (by simp) fun p hp => ?_
  simp only [List.mem_cons, List.not_mem_nil, or_false] at hp
  rcases hp with rfl | rfl | rfl
  · exact PyProof.Rows.int_text_free' 32 ⟨by decide, by decide⟩ s
  · unfold hdS; repeat' split
    all_goals decide +kernel
  · unfold tnS; split <;> decide +kernel
theorem spt_fstr (s : Int) (q : Nat) (r : Bool) : Str.empty ++ shw s ++ Str.ofString " " ++ hdS q ++ Str.ofString " " ++ tnS r = spt s q r := by
  refine str_ext ?_
  have e : (Str.ofString " ").cps.toList = [32] := by decide +kernel
  unfold spt
  show _ = (shw s ++ ⟨#[32]⟩ ++ (hdS q ++ ⟨#[32]⟩ ++ tnS r)).cps.toList
  simp only [cps_app, e, List.append_assoc]
  rfl
theorem shw_len {n : Int} (h : -(10 ^ 30) < n ∧ n < 10 ^ 30) : (shw n).length ≤ 31 := by
  have e := int_text_length_le10 (a := n) (k := 30) (by decide) (by omega)
  unfold shw
  rw [PySem.ofString_length]
  exact e
theorem hdS_len (q : Nat) : (hdS q).length = 1 := by
  unfold hdS
  repeat' split
  all_goals decide +kernel
theorem tnS_len (r : Bool) : (tnS r).length = 1 := by unfold tnS; split <;> decide +kernel
theorem spt_len {s : Int} (h : -(10 ^ 30) < s ∧ s < 10 ^ 30) (q : Nat) (r : Bool) : (spt s q r).length ≤ 40 := by
  unfold spt
  show (shw s ++ ⟨#[32]⟩ ++ (hdS q ++ ⟨#[32]⟩ ++ tnS r)).length ≤ 40
  have := shw_len h
  simp only [PySem.strLen_append, hdS_len, tnS_len]
  show (shw s).length + 1 + (1 + 1 + 1) ≤ 40
  omega
abbrev Cp (z : Str) : Prop := ∀ c ∈ z.cps.toList, c < 1114112
abbrev Sz (z : Str) : Prop := z.length ≤ 1000000 ∧ Cp z
theorem shaped_str {z : Str} (h : Cp z) : SeqAt.shaped (.str z) = true := by
  unfold SeqAt.shaped
  have h1 : PyData.canLay0 (.str z) = true := by
    rw [PyData.canLay0]
    unfold PyData.strOk
    rw [← Array.all_toList, List.all_eq_true]
    intro c hc
    simpa using h c hc
  rw [h1]
  rfl
theorem bare_sub (z : Str) : ∀ c ∈ bare z, c ∈ z.cps.toList := by
  unfold bare
  intro c hc
  split at hc
  · next l e => rw [e]; exact List.mem_cons_of_mem _ hc
  · exact hc
theorem shw_cp (n : Int) : Cp (shw n) := by
  intro c hc
  cases n with
  | ofNat k =>
    rw [show (shw (Int.ofNat k)).cps.toList = figs k from shown_nat k] at hc
    have := figs_digits k c hc; omega
  | negSucc k =>
    rw [show (shw (Int.negSucc k)).cps.toList = 45 :: figs (k + 1) from shown_neg k] at hc
    rcases List.mem_cons.mp hc with rfl | hc
    · decide
    · have := figs_digits _ c hc; omega
def F_is_written_number (P : Addr) : FD := fun ds m Q => ∃ z, ds = [.d (.str z)] ∧ m P = some mTbl ∧ Sz z ∧ Q (.d (.bool (isW z))) m
theorem mo_is_written_number {P : Addr} : MoA (F_is_written_number P) := fun _ _ _ _ h ⟨z, e, h1, h2, q⟩ => ⟨z, e, h1, h2, h _ _ q⟩
abbrev Sn (s : Int) : Prop := -(10 ^ 30) < s ∧ s < 10 ^ 30
def F_read_spiral (P : Addr) : FD := fun ds m Q => ∃ s q r, ds = [.d (.str (spt s q r))] ∧ q < 4 ∧ Sn s ∧ m P = some mTbl ∧ Q (spi s q r) m
theorem mo_read_spiral {P : Addr} : MoA (F_read_spiral P) := fun _ _ _ _ h ⟨s, q, r, e, h1, h2, h3, z⟩ => ⟨s, q, r, e, h1, h2, h3, h _ _ z⟩
def F_spiral_shown : FD := fun ds m Q => ∃ s q r, ds = [spi s q r] ∧ Sn s ∧ Q (.d (.str (spt s q r))) m
theorem mo_spiral_shown : MoA F_spiral_shown := fun _ _ _ _ h ⟨s, q, r, e, h1, z⟩ => ⟨s, q, r, e, h1, h _ _ z⟩
def F_law (P : Addr) : FD := fun ds m Q => ∃ ns : List Int, ds = [.d (.list (ns.map .int))] ∧ ns.length ≤ 63 ∧ m P = some mTbl ∧ ∀ m', Q (.d (.bool true)) m'
theorem mo_law {P : Addr} : MoA (F_law P) := fun _ _ _ _ h ⟨ns, e, l, h1, z⟩ => ⟨ns, e, l, h1, fun m' => h _ _ (z m')⟩
theorem del_draw {m : M} {a D : Addr} {o o' : MO} {L : MO} (h : a ≠ D) (hD : m D = none) : delM (setM (setM (setM m a o) D L) a o') D = setM m a o' := by
  funext b
  by_cases e : b = D
  · subst e; rw [delM_same, setM_ne (Ne.symm h), hD]
  · rw [delM_ne e]
    by_cases e2 : b = a
    · subst e2; rw [setM_same, setM_same]
    · rw [setM_ne e2, setM_ne e2, setM_ne e, setM_ne e2]
end KT
namespace DL
open PySem PySem.W PySem.Spec PyProof.Rows L2 Att
def bitsOf : List Int → Nat
  | [] => 0
  | n :: r => Builtin.Int.intBits n + 1 + bitsOf r
end DL
set_option maxHeartbeats 1000000
namespace Sp
def co (k : Int) : Int := (k + 1) * (k + 1) / 4
theorem co_step {k : Int} (hk : 0 ≤ k) : co (k + 1) = co k + (k + 2) / 2 := by
  have h := corner_gap (k + 1) (by omega)
  unfold co
  split at h <;> omega
theorem co_nn (k : Int) : 0 ≤ co k := by
  unfold co
  have : 0 ≤ (k + 1) * (k + 1) := by
    rcases Int.le_total 0 (k + 1) with h | h
    · exact Int.mul_nonneg h h
    · exact Int.mul_nonneg_of_nonpos_of_nonpos h h
  omega
def sx (h : Nat) : Int := if h = 0 then 1 else if h = 2 then -1 else 0
def sy (h : Nat) : Int := if h = 1 then 1 else if h = 3 then -1 else 0
def hq (q : Nat) (r : Bool) (k : Int) : Nat := (((q : Int) + (if r then -k else k)) % 4).toNat
theorem co4 (j c : Int) (hc : c = 0 ∨ c = 1 ∨ c = 2 ∨ c = 3) : co (4 * j + c) = 4 * (j * j) + (2 + 2 * c) * j + (if c = 0 then 0 else if c = 1 then 1 else if c = 2 then 2 else 4) := by
  unfold co
  have e : (4 * j + c + 1) * (4 * j + c + 1) = 16 * (j * j) + 8 * (c + 1) * j + (c + 1) * (c + 1) := by grind
  rw [e]
  rcases hc with rfl | rfl | rfl | rfl <;> simp <;> omega
theorem plain_run {u v k i : Int} (hk : 0 ≤ k) (h : po u v = co k) (h0 : 0 ≤ i) (h1 : i ≤ (k + 2) / 2) :
    po (u + sx (k % 4).toNat * i) (v + sy (k % 4).toNat * i) = co k + i := by
  obtain ⟨j, hj, hc⟩ : ∃ j : Int, 0 ≤ j ∧ (k = 4 * j + 0 ∨ k = 4 * j + 1 ∨ k = 4 * j + 2 ∨ k = 4 * j + 3) := ⟨k / 4, by omega, by omega⟩
  have sq : 4 * j * j = 4 * (j * j) := by grind
  have sq1 : 4 * (j + 1) * (j + 1) = 4 * (j * j) + 8 * j + 4 := by grind
  rcases hc with rfl | rfl | rfl | rfl
  · have e : ((4 * j + 0) % 4).toNat = 0 := by omega
    rw [e, co4 j 0 (by simp)] at *
    obtain ⟨_, p⟩ := po_of (x := -j) (y := -j) (k := j) hj (.inl ⟨rfl, by omega, by omega⟩)
    rw [if_pos rfl] at p
    obtain ⟨rfl, rfl⟩ := po_inj (h.trans (show _ = po (-j) (-j) by rw [p]; simp; omega))
    simp only [sx, sy]
    simp
    rcases Int.lt_or_le i (2 * j + 1) with l | l
    · obtain ⟨_, p⟩ := po_of (x := -j + i) (y := -j) (k := j) hj (.inl ⟨rfl, by omega, by omega⟩)
      rw [p, if_pos rfl]; omega
    · obtain ⟨_, p⟩ := po_of (x := -j + i) (y := -j) (k := j + 1) (by omega) (.inr (.inr (.inr ⟨by omega, by omega, by omega⟩)))
      rw [p, if_neg (by omega), if_neg (by omega), if_neg (by omega)]; omega
  · have e : ((4 * j + 1) % 4).toNat = 1 := by omega
    rw [e, co4 j 1 (by simp)] at *
    obtain ⟨_, p⟩ := po_of (x := j + 1) (y := -j) (k := j + 1) (by omega) (.inr (.inr (.inr ⟨rfl, by omega, by omega⟩)))
    rw [if_neg (by omega), if_neg (by omega), if_neg (by omega)] at p
    obtain ⟨rfl, rfl⟩ := po_inj (h.trans (show _ = po (j + 1) (-j) by rw [p]; simp; omega))
    simp only [sx, sy]
    simp
    rcases Int.lt_or_le (-j + i) (j + 1) with l | l
    · obtain ⟨_, p⟩ := po_of (x := j + 1) (y := -j + i) (k := j + 1) (by omega) (.inr (.inr (.inr ⟨rfl, by omega, by omega⟩)))
      rw [p, if_neg (by omega), if_neg (by omega), if_neg (by omega)]; omega
    · obtain ⟨_, p⟩ := po_of (x := j + 1) (y := -j + i) (k := j + 1) (by omega) (.inr (.inr (.inl ⟨by omega, by omega, by omega⟩)))
      rw [p, if_neg (by omega), if_neg (by omega), if_pos (by omega)]; omega
  · have e : ((4 * j + 2) % 4).toNat = 2 := by omega
    rw [e, co4 j 2 (by simp)] at *
    obtain ⟨_, p⟩ := po_of (x := j + 1) (y := j + 1) (k := j + 1) (by omega) (.inr (.inr (.inl ⟨rfl, by omega, by omega⟩)))
    rw [if_neg (by omega), if_neg (by omega), if_pos (by omega)] at p
    obtain ⟨rfl, rfl⟩ := po_inj (h.trans (show _ = po (j + 1) (j + 1) by rw [p]; simp; omega))
    simp only [sx, sy]
    simp
    rcases Int.lt_or_le (-(j + 1)) (j + 1 + -i) with l | l
    · obtain ⟨_, p⟩ := po_of (x := j + 1 + -i) (y := j + 1) (k := j + 1) (by omega) (.inr (.inr (.inl ⟨rfl, by omega, by omega⟩)))
      rw [p, if_neg (by omega), if_neg (by omega), if_pos (by omega)]; omega
    · obtain ⟨_, p⟩ := po_of (x := j + 1 + -i) (y := j + 1) (k := j + 1) (by omega) (.inr (.inl ⟨by omega, by omega, by omega⟩))
      rw [p, if_neg (by omega), if_pos (by omega)]; omega
  · have e : ((4 * j + 3) % 4).toNat = 3 := by omega
    rw [e, co4 j 3 (by simp)] at *
    obtain ⟨_, p⟩ := po_of (x := -(j + 1)) (y := j + 1) (k := j + 1) (by omega) (.inr (.inl ⟨rfl, by omega, by omega⟩))
    rw [if_neg (by omega), if_pos (by omega)] at p
    obtain ⟨rfl, rfl⟩ := po_inj (h.trans (show _ = po (-(j + 1)) (j + 1) by rw [p]; simp; omega))
    simp only [sx, sy]
    simp
    rcases Int.lt_or_le (-(j + 1)) (j + 1 + -i) with l | l
    · obtain ⟨_, p⟩ := po_of (x := -(j + 1)) (y := j + 1 + -i) (k := j + 1) (by omega) (.inr (.inl ⟨by omega, by omega, by omega⟩))
      rw [p, if_neg (by omega), if_pos (by omega)]; omega
    · obtain ⟨_, p⟩ := po_of (x := -(j + 1)) (y := j + 1 + -i) (k := j + 1) (by omega) (.inl ⟨by omega, by omega, by omega⟩)
      rw [p, if_pos (by omega)]; omega
theorem tp_step {q : Nat} (hq4 : q < 4) (r : Bool) (x y k i : Int) :
    tpx q r (x + sx (hq q r k) * i) (y + sy (hq q r k) * i) = tpx q r x y + sx (k % 4).toNat * i ∧ tpy q r (x + sx (hq q r k) * i) (y + sy (hq q r k) * i) = tpy q r x y + sy (k % 4).toNat * i := by
  obtain ⟨c, hc, h1⟩ : ∃ c : Nat, (k % 4).toNat = c ∧ (c = 0 ∨ c = 1 ∨ c = 2 ∨ c = 3) := ⟨(k % 4).toNat, rfl, by omega⟩
  have h2 : hq q r k = (if r then (q + 4 - c) % 4 else (q + c) % 4) := by
    unfold hq
    cases r <;> simp <;> omega
  rw [h2, hc]
  rcases (show q = 0 ∨ q = 1 ∨ q = 2 ∨ q = 3 by omega) with rfl | rfl | rfl | rfl <;> rcases h1 with rfl | rfl | rfl | rfl <;> cases r <;> simp [tpx, tpy, rotx, roty, mir, sx, sy] <;> omega
theorem at_run {q : Nat} (hq4 : q < 4) {r : Bool} {x y k i : Int} (hk : 0 ≤ k) (h : at' q r x y = co k) (h0 : 0 ≤ i) (h1 : i ≤ (k + 2) / 2) :
    at' q r (x + sx (hq q r k) * i) (y + sy (hq q r k) * i) = co k + i := by
  unfold at' at h ⊢
  obtain ⟨e1, e2⟩ := tp_step hq4 r x y k i
  rw [e1, e2]
  exact plain_run hk h h0 h1
end Sp
namespace K
open PySem L2 DL Sp
def F_law : FD := fun ds m Q => ∃ ns : List Int, ds = [.d (.list (ns.map .int))] ∧ ns.length ≤ 63 ∧ ∀ m', Q (.d (.bool true)) m'
theorem mo_law : MoA F_law := fun _ _ _ _ h ⟨ns, e, l, z⟩ => ⟨ns, e, l, fun m' => h _ _ (z m')⟩
theorem eqv_pr (a b c d : Int) : PyData.eqv (.tuple [.int a, .int b]) (.tuple [.int c, .int d]) = (decide (a = c) && decide (b = d)) := by
  simp only [PyData.eqv, PyData.eqvAll, Bool.and_true]
  by_cases h : a = c <;> by_cases h2 : b = d <;> simp [h, h2]
theorem shaped_pr (a b : Int) : SeqAt.shaped (.tuple [.int a, .int b]) = true := rfl
theorem in4 (x a b c d : Int) : inD (.int x) [.int a, .int b, .int c, .int d] = (decide (a = x) || (decide (b = x) || (decide (c = x) || decide (d = x)))) := by
  simp only [inD, List.any_cons, List.any_nil, eqv_int, Bool.or_false]
theorem flat4 (a b c d : Int) : ([.int a, .int b, .int c, .int d] : List PyData).all flatD = true := rfl
theorem flatI (a : Int) : flatD (.int a) = true := rfl
end K
namespace K
open PySem L2 DL Sp
theorem eqv_tnl (r : Bool) : PyData.eqv (.str (tnS r)) (.str "l") = !r := by cases r <;> decide +kernel
theorem shaped_l : SeqAt.shaped (.str "l") = true := by decide +kernel
end K
namespace K11
open PySem L2 DL Sp K
def DeckB (o : MO) (c : Nat) : Prop := ∃ g x t : Int, o = .lst [I g, I x, I t] ∧ 0 ≤ g ∧ (0 ≤ x ∧ x < 2 ^ 31) ∧ 0 ≤ t ∧ t ≤ c
theorem DeckB.mono {o : MO} {c d : Nat} (h : DeckB o c) (l : c ≤ d) : DeckB o d := by
  obtain ⟨g, x, t, e, h1, h2, h3, h4⟩ := h
  exact ⟨g, x, t, e, h1, h2, h3, by omega⟩
def F__law_deck : FD := fun ds m Q => ∃ ns : List Int, ds = [.d (.list (ns.map .int))] ∧ (ns.length ≤ 63 ∧ bitsOf ns ≤ 2 ^ 20) ∧ ∀ p o, m p = none → DeckB o 0 → Q (.r p) (setM m p o)
def F__law_spiral : FD := fun ds m Q => ∃ a o c, ds = [.r a] ∧ m a = some o ∧ DeckB o c ∧ c < 2 ^ 36 ∧ ∀ s q r o', (-(10 ^ 18) ≤ s ∧ s ≤ 10 ^ 18) → q < 4 → DeckB o' (c + 7) → Q (spi s q r) (setM m a o')
theorem mo__law_deck : MoA F__law_deck := fun _ _ _ _ h ⟨ns, e, l, z⟩ => ⟨ns, e, l, fun p o h1 h2 => h _ _ (z p o h1 h2)⟩
theorem mo__law_spiral : MoA F__law_spiral := fun _ _ _ _ h ⟨a, o, c, e, h1, h2, h3, z⟩ => ⟨a, o, c, e, h1, h2, h3, fun s q r o' a b d => h _ _ (z s q r o' a b d)⟩
def T (b : Bool) : Dv := .d (.bool b)
def F_law : FD := fun ds m Q => ∃ ns : List Int, ds = [.d (.list (ns.map .int))] ∧ (ns.length ≤ 63 ∧ bitsOf ns ≤ 2 ^ 20) ∧ ∀ m', Q (.d (.bool true)) m'
theorem mo_law : MoA F_law := fun _ _ _ _ h ⟨ns, e, l, z⟩ => ⟨ns, e, l, fun m' => h _ _ (z m')⟩
theorem bits_lt (i : Int) : i.natAbs < 2 ^ Builtin.Int.intBits i := by
  unfold Builtin.Int.intBits
  by_cases h : i = 0
  · subst h; decide
  · rw [if_neg (by simpa using h)]; exact Nat.lt_log2_self
end K11
namespace K11
open PySem L2 DL Sp K
theorem eqv_same {x : PyData} : ∀ (h : SeqAt.shaped x = true), PyData.eqv x x = true := fun h => SeqAt.eqv_refl x (Bool.and_eq_true_iff.mp h).1
theorem zip_same {α : Type} (f g : α → PyData) : ∀ L : List α, zipD (L.map f) (L.map g) = L.map fun p => Dv.d (.tuple [f p, g p])
  | [] => rfl
  | p :: r => by
    have := zip_same f g r
    unfold zipD at this ⊢
    simp only [List.map_cons, List.zip_cons_cons, this]
end K11
namespace K11
open PySem L2 DL Sp K
end K11
set_option maxHeartbeats 1000000
namespace Sp
def Btw (a b c d u : Int) : Prop := (a ≤ u ∨ b ≤ u ∨ c ≤ u ∨ d ≤ u) ∧ (u ≤ a ∨ u ≤ b ∨ u ≤ c ∨ u ≤ d)
structure IsBx (q : Nat) (r : Bool) (n l b t h : Int) : Prop where
  all : ∀ x y, at' q r x y ≤ n → l ≤ x ∧ x ≤ t ∧ b ≤ y ∧ y ≤ h
  al : ∃ y, at' q r l y ≤ n
  ab : ∃ x, at' q r x b ≤ n
  at_ : ∃ y, at' q r t y ≤ n
  ah : ∃ x, at' q r x h ≤ n
theorem IsBx.uniq {q : Nat} {r : Bool} {n l b t h l' b' t' h' : Int} (x : IsBx q r n l b t h) (y : IsBx q r n l' b' t' h') : l = l' ∧ b = b' ∧ t = t' ∧ h = h' := by
  obtain ⟨a1, h1⟩ := x.al; obtain ⟨a2, h2⟩ := x.ab; obtain ⟨a3, h3⟩ := x.at_; obtain ⟨a4, h4⟩ := x.ah
  obtain ⟨b1, k1⟩ := y.al; obtain ⟨b2, k2⟩ := y.ab; obtain ⟨b3, k3⟩ := y.at_; obtain ⟨b4, k4⟩ := y.ah
  have p1 := y.all _ _ h1; have p2 := y.all _ _ h2; have p3 := y.all _ _ h3; have p4 := y.all _ _ h4
  have q1 := x.all _ _ k1; have q2 := x.all _ _ k2; have q3 := x.all _ _ k3; have q4 := x.all _ _ k4
  omega
theorem IsBx.zero {q : Nat} (hq : q < 4) (r : Bool) : IsBx q r 0 0 0 0 0 := by
  have e : at' q r 0 0 = 0 := by
    unfold at'
    have : tpx q r 0 0 = 0 ∧ tpy q r 0 0 = 0 := by
      rcases (show q = 0 ∨ q = 1 ∨ q = 2 ∨ q = 3 by omega) with rfl | rfl | rfl | rfl <;> cases r <;> simp [tpx, tpy, rotx, roty, mir]
    rw [this.1, this.2]; decide
  refine ⟨fun x y h => ?_, ⟨0, by omega⟩, ⟨0, by omega⟩, ⟨0, by omega⟩, ⟨0, by omega⟩⟩
  have h0 := at_nonneg q r x y
  obtain ⟨rfl, rfl⟩ := at_inj hq (r := r) (show at' q r x y = at' q r 0 0 by omega)
  omega
theorem IsBx.step {q : Nat} (hq : q < 4) {r : Bool} {n l b t h x y l' b' t' h' : Int} (B : IsBx q r n l b t h) (e : at' q r x y = n + 1)
    (el : l' = if x < l then x else l) (eb : b' = if y < b then y else b) (et : t' = if x > t then x else t) (eh : h' = if y > h then y else h) : IsBx q r (n + 1) l' b' t' h' := by
  obtain ⟨a1, h1⟩ := B.al; obtain ⟨a2, h2⟩ := B.ab; obtain ⟨a3, h3⟩ := B.at_; obtain ⟨a4, h4⟩ := B.ah
  refine ⟨fun u v huv => ?_, ?_, ?_, ?_, ?_⟩
  · rcases Int.lt_or_le n (at' q r u v) with g | g
    · obtain ⟨rfl, rfl⟩ := at_inj hq (r := r) (show at' q r u v = at' q r x y by omega)
      subst el eb et eh
      repeat' split
      all_goals omega
    · have := B.all _ _ g
      subst el eb et eh
      repeat' split
      all_goals omega
  · subst el; split
    · exact ⟨y, by omega⟩
    · exact ⟨a1, by omega⟩
  · subst eb; split
    · exact ⟨x, by omega⟩
    · exact ⟨a2, by omega⟩
  · subst et; split
    · exact ⟨y, by omega⟩
    · exact ⟨a3, by omega⟩
  · subst eh; split
    · exact ⟨x, by omega⟩
    · exact ⟨a4, by omega⟩
theorem Btw.neg {a b c d u : Int} (h : Btw a b c d u) : Btw (-a) (-b) (-c) (-d) (-u) := by unfold Btw at *; omega
end Sp
namespace Sp
theorem po_ex : ∀ n : Nat, ∃ x y, po x y = (n : Nat)
  | 0 => ⟨0, 0, by decide⟩
  | n + 1 => by
    obtain ⟨x, y, h⟩ := po_ex n
    rcases (beside x y).1 with e | e | e | e
    · exact ⟨_, _, by rw [e, h]; omega⟩
    · exact ⟨_, _, by rw [e, h]; omega⟩
    · exact ⟨_, _, by rw [e, h]; omega⟩
    · exact ⟨_, _, by rw [e, h]; omega⟩
theorem at_ex {q : Nat} (hq : q < 4) (r : Bool) {n : Int} (h : 0 ≤ n) : ∃ p : Int × Int, at' q r p.1 p.2 = n := by
  obtain ⟨x, y, e⟩ := po_ex n.toNat
  exact ⟨(fpx q r x y, fpy q r x y), by rw [at_fp hq, e]; omega⟩
open Classical in
noncomputable def plc (q : Nat) (r : Bool) (n : Int) : Int × Int := if h : ∃ p : Int × Int, at' q r p.1 p.2 = n then choose h else (0, 0)
noncomputable def px (q : Nat) (r : Bool) (n : Int) : Int := (plc q r n).1
noncomputable def py (q : Nat) (r : Bool) (n : Int) : Int := (plc q r n).2
theorem pl_at {q : Nat} (hq : q < 4) (r : Bool) {n : Int} (h : 0 ≤ n) : at' q r (px q r n) (py q r n) = n := by
  unfold px py plc
  rw [dif_pos (at_ex hq r h)]
  exact Classical.choose_spec (at_ex hq r h)
theorem pl_eq {q : Nat} (hq : q < 4) {r : Bool} {x y n : Int} (h : at' q r x y = n) : x = px q r n ∧ y = py q r n := by
  have h0 := at_nonneg q r x y
  exact at_inj hq (r := r) (h.trans (pl_at hq r (by omega)).symm)
end Sp
namespace K
open PySem L2 DL Sp
abbrev prD (x y : Int) : PyData := .tuple [.int x, .int y]
end K
namespace K18
open PySem L2 DL Sp K
def SeedB (o : MO) (c : Nat) : Prop := ∃ g f t x : Int, o = .lst [I g, I f, I t, I x] ∧ 0 ≤ g ∧ (0 ≤ x ∧ x < 2 ^ 31) ∧ 0 ≤ t ∧ t ≤ c
theorem SeedB.mono {o : MO} {c d : Nat} (h : SeedB o c) (l : c ≤ d) : SeedB o d := by
  obtain ⟨g, f, t, x, e, h1, h2, h3, h4⟩ := h
  exact ⟨g, f, t, x, e, h1, h2, h3, by omega⟩
def hds (q : Nat) (r : Bool) : Str := if q = 0 then (if r then "eswn" else "enws") else if q = 1 then (if r then "nesw" else "nwse") else if q = 2 then (if r then "wnes" else "wsen") else (if r then "swne" else "senw")
def F__law_spiral : FD := fun ds m Q => ∃ a o c, ds = [.r a] ∧ m a = some o ∧ SeedB o c ∧ c < 2 ^ 36 ∧ ∀ s q r o', (-(10 ^ 18) ≤ s ∧ s ≤ 10 ^ 18) → q < 4 → SeedB o' (c + 7) → Q (spi s q r) (setM m a o')
noncomputable def laidD (q : Nat) (r : Bool) (n : Nat) : List PyData := (List.range n).map fun i => prD (px q r (i : Nat)) (py q r (i : Nat))
def F_law : FD := fun ds m Q => ∃ ns : List Int, ds = [.d (.list (ns.map .int))] ∧ ns.length ≤ 63 ∧ ∀ m', Q (.d (.bool true)) m'
theorem mo__law_spiral : MoA F__law_spiral := fun _ _ _ _ h ⟨a, o, c, e, h1, h2, h3, z⟩ => ⟨a, o, c, e, h1, h2, h3, fun s q r o' a b d => h _ _ (z s q r o' a b d)⟩
theorem mo_law : MoA F_law := fun _ _ _ _ h ⟨ns, e, l, z⟩ => ⟨ns, e, l, fun m' => h _ _ (z m')⟩
end K18
namespace K
open PySem L2 DL Sp
noncomputable def plF (q : Nat) (r : Bool) : Dv → Option PyData
  | .d (.int k) => some (prD (px q r k) (py q r k))
  | _ => none
end K
namespace K18
open PySem L2 DL Sp K
theorem pl0 {q : Nat} (hq : q < 4) (r : Bool) : px q r 0 = 0 ∧ py q r 0 = 0 := by
  have e : at' q r 0 0 = 0 := by
    unfold at'
    have : tpx q r 0 0 = 0 ∧ tpy q r 0 0 = 0 := by
      rcases (show q = 0 ∨ q = 1 ∨ q = 2 ∨ q = 3 by omega) with rfl | rfl | rfl | rfl <;> cases r <;> simp [tpx, tpy, rotx, roty, mir]
    rw [this.1, this.2]; decide
  obtain ⟨a, b⟩ := pl_eq hq e
  exact ⟨a.symm, b.symm⟩
theorem laid_len (q : Nat) (r : Bool) (n : Nat) : (laidD q r n).length = n := by unfold laidD; rw [List.length_map, List.length_range]
theorem laid1 {q : Nat} (hq : q < 4) (r : Bool) : laidD q r 1 = [prD 0 0] := by
  obtain ⟨a, b⟩ := pl0 hq r
  show [prD (px q r ((0 : Nat) : Int)) (py q r ((0 : Nat) : Int))] = _
  rw [show ((0 : Nat) : Int) = 0 from rfl, a, b]
theorem laid_succ (q : Nat) (r : Bool) (n : Nat) : laidD q r (n + 1) = laidD q r n ++ [prD (px q r (n : Nat)) (py q r (n : Nat))] := by
  unfold laidD; rw [List.range_succ, List.map_append]; rfl
theorem pl_step {q : Nat} (hq4 : q < 4) {r : Bool} {k n : Int} (hk : 0 ≤ k) (h1 : co k ≤ n) (h2 : n < co (k + 1)) : px q r (n + 1) = px q r n + sx (hq q r k) ∧ py q r (n + 1) = py q r n + sy (hq q r k) := by
  have st := co_step hk
  have c0 := pl_at hq4 r (co_nn k)
  have e1 := at_run hq4 (r := r) (i := n - co k) hk c0 (by omega) (by omega)
  have e2 := at_run hq4 (r := r) (i := n + 1 - co k) hk c0 (by omega) (by omega)
  obtain ⟨a, b⟩ := pl_eq hq4 (n := n) (by rw [e1]; omega)
  obtain ⟨c, d⟩ := pl_eq hq4 (n := n + 1) (by rw [e2]; omega)
  rw [← a, ← b, ← c, ← d]
  generalize sx (hq q r k) = u
  generalize sy (hq q r k) = v
  constructor <;> grind
noncomputable def laidL (q : Nat) (r : Bool) (n : Nat) : List Dv := (laidD q r n).map Dv.d
theorem isT_ib : isT "int" "bool" = false := by decide
theorem isT_ii : isT "int" "int" = true := by decide
theorem isT_tt : isT "tuple" "tuple" = true := by decide
theorem laidL_len (q : Nat) (r : Bool) (n : Nat) : (laidL q r n).length = n := by unfold laidL; rw [List.length_map, laid_len]
theorem laidL1 {q : Nat} (hq : q < 4) (r : Bool) : laidL q r 1 = [pr 0 0] := by unfold laidL; rw [laid1 hq]; rfl
theorem laidL_succ (q : Nat) (r : Bool) (n : Nat) : laidL q r (n + 1) = laidL q r n ++ [pr (px q r (n : Nat)) (py q r (n : Nat))] := by
  unfold laidL; rw [laid_succ, List.map_append]; rfl
theorem atI_last {α : Type} (xs : List α) (a : α) : atI (xs ++ [a]) (-1) = some a := by
  unfold atI ixN
  rw [if_neg (by decide)]
  simp only [List.length_append, List.length_cons, List.length_nil]
  rw [if_pos (by omega)]
  rw [show (-1 + ((xs.length + (0 + 1) : Nat) : Int)).toNat = xs.length by omega]
  simp
theorem last_laid (q : Nat) (r : Bool) (n : Nat) : atI (laidL q r (n + 1)) (-1) = some (pr (px q r (n : Nat)) (py q r (n : Nat))) := by rw [laidL_succ]; exact atI_last _ _
theorem cut_take (xs : List PyData) (n : Int) (h0 : 0 ≤ n) (h : n ≤ xs.length) : cutD xs none (some n) = xs.take n.toNat := by
  unfold cutD
  simp only [HT.sIx, List.drop_zero, Nat.sub_zero]
  rw [if_neg (by omega)]
  congr 1
  omega
theorem cut_laid (q : Nat) (r : Bool) {N : Nat} {n : Int} (h0 : 0 ≤ n) (h : n ≤ N) : cutD (laidD q r N) none (some n) = laidD q r n.toNat := by
  rw [cut_take _ _ h0 (by rw [laid_len]; exact h)]
  unfold laidD
  rw [← List.map_take, List.take_range, Nat.min_eq_left (by omega)]
end K18
namespace K10
open PySem L2 DL Sp K K11
open K18 (laidD laidL laid_len laidL_len laidL_succ laidL1 last_laid cut_laid pl_step)
def F_law : FD := fun ds m Q => ∃ ns : List Int, ds = [.d (.list (ns.map .int))] ∧ (ns.length ≤ 63 ∧ bitsOf ns ≤ 2 ^ 20) ∧ ∀ m', Q (.d (.bool true)) m'
theorem mo_law : MoA F_law := fun _ _ _ _ h ⟨ns, e, l, z⟩ => ⟨ns, e, l, fun m' => h _ _ (z m')⟩
theorem isT_it : isT "int" "tuple" = false := by decide
theorem isT_is : isT "int" "str" = false := by decide
theorem po_sides {u v : Int} : (u = ring u v → v ≤ -(ring u v) → False) → True := fun _ => trivial
abbrev F__law_deck : FD := K11.F__law_deck
abbrev F__law_spiral : FD := K11.F__law_spiral
theorem mo__law_deck : MoA F__law_deck := K11.mo__law_deck
theorem mo__law_spiral : MoA F__law_spiral := K11.mo__law_spiral
def forB (xs : List Dv) (still : M → Prop) (g : TGd) (tb : TSd) (D : DEnds) (δ : Dn) (m1 : M) : Prop := ∃ Pv : Nat → Dn → M → Prop, Pv 0 δ m1 ∧ (∀ i δ m, Pv i δ m → still m) ∧
  (∀ i x δ m, xs[i]? = some x → Pv i δ m → g x δ m fun δ2 m2 => tb { D with nx := Pv (i + 1), ct := Pv (i + 1), bk := D.nx } δ2 m2) ∧ ∀ δ m, Pv xs.length δ m → D.nx δ m
theorem for_out {w : TId} {g : TGd} {tb : TSd} {D : DEnds} {δ : Dn} {m : M} (h : w δ m fun xs still m1 => forB xs still g tb D δ m1) : sFor w g tb D δ m := h
theorem forB_its {xs : List Dv} {g : TGd} {tb : TSd} {D : DEnds} {δ : Dn} {m : M} (Pv : Nat → Dn → M → Prop) (h0 : Pv 0 δ m)
    (ht : ∀ i x δ m, xs[i]? = some x → Pv i δ m → g x δ m fun δ2 m2 => tb { D with nx := Pv (i + 1), ct := Pv (i + 1), bk := D.nx } δ2 m2) (hd : ∀ δ m, Pv xs.length δ m → D.nx δ m) : forB xs (fun _ => True) g tb D δ m :=
  ⟨Pv, h0, fun _ _ _ _ => trivial, ht, hd⟩
end K10
namespace DL
open PySem PySem.Spec PyProof.Rows L2
def FlyAt (h : Heap) (e : Addr) (c : Value) (dx : Option Addr) (T : Option Addr) : Prop :=
  ∃ oe vs, h.get? e = some oe ∧ oe.cls = c ∧ oe.dict = dx ∧ oe.data = .fields vs ∧ 1 < vs.size ∧ (match T with
    | none => vs[1]? = some .none
    | some t => vs[1]? = some (.ref t) ∧ t ≠ e ∧ ∃ oT ts, h.get? t = some oT ∧ oT.data = .fields ts ∧ ts[3]? = some .none)
structure KeepBut (fs : List Addr) (e : Addr) (T : Option Addr) (h h' : Heap) : Prop where
  keep : ∀ b o, b ≠ e → T ≠ some b → b ∉ fs → h.get? b = some o → h'.get? b = some o
  slot : ∀ b o, b ≠ e → T ≠ some b → h.get? b = some o → ∃ sl, h'.get? b = some { o with slots := sl }
section
variable {M : Model} {A : Around} {E : Value → Shared → Prop} {s : Shared}
end
end DL
namespace DL
open PySem PySem.Spec PyProof.Rows L2
structure Flies (k : Nat) (H : Hp) (h : Heap) (e : Addr) (c : Value) (dx : Addr) (od : Obj) (T : Option Addr) : Prop where
  fly : FlyAt h e c (some dx) T
  dict : h.get? dx = some od
  ke : k ≤ e
  kd : k ≤ dx
  kT : ∀ t, T = some t → k ≤ t
  fe : H e = none
  fd : H dx = none
  fT : ∀ t, T = some t → H t = none
  de : dx ≠ e
  dT : T ≠ some dx
section
variable {P : Program} {w : World} {K : PySem.W.Frag} {mg : Str → Option Value} {base : Heap} {N : List Str} {qual : Str} {scope : Scope} {f : Addr} {cd : Value} {A : Around} {outer : List Env} {s : Shared} {H : Hp} {E : XK}
theorem Flies.mono {j k : Nat} {H : Hp} {h : Heap} {e dx : Addr} {c : Value} {od : Obj} {T : Option Addr} (x : Flies k H h e c dx od T) (l : j ≤ k) : Flies j H h e c dx od T :=
  ⟨x.fly, x.dict, Nat.le_trans l x.ke, Nat.le_trans l x.kd, fun t z => Nat.le_trans l (x.kT t z), x.fe, x.fd, x.fT, x.de, x.dT⟩
end
end DL
set_option maxHeartbeats 1000000
namespace DL
open PySem PySem.Spec PyProof.Rows L2
section
variable {prog : Program} {w : World} {A : Around} {E : Value → Shared → Prop} {h : Heap} {g : Array GenState} {d : Drawn} {t : Nat} {os : OsState}
variable {nm q : Str} {C N f : Addr} {bs bm bmB : List Value} {hdct : Bool} {sn : List Str} {sub : List Value} {ab : Bool} {col : Option Bool} {dd : Option Addr} {k0 k1 k2 k3 k5 : Option Value} {B newId initId : String}
end
end DL
set_option maxHeartbeats 1000000
namespace DL
open PySem PySem.Spec PyProof.Rows L2
section
variable {prog : Program} {w : World} {A : Around} {E : Value → Shared → Prop} {h : Heap} {g : Array GenState} {d : Drawn} {t : Nat} {os : OsState}
variable {nm q : Str} {C N f x : Addr} {ox : Obj} {bs bm bmB : List Value} {hdct : Bool} {sn : List Str} {sub : List Value} {ab : Bool} {col : Option Bool} {dd : Option Addr} {k0 k1 k2 k3 k5 : Option Value} {newId : String}
end
end DL
namespace DL
open PySem PySem.Spec PyProof.Rows L2
open Builtin Builtin.ObjectAttr
section
variable {prog : Program} {w : World} {A : Around} {E : Value → Shared → Prop} {h : Heap} {g : Array GenState} {d : Drawn} {t : Nat} {os : OsState}
variable {nm q : Str} {C N x : Addr} {bs bm : List Value} {sn : List Str} {sub : List Value} {ab : Bool} {col : Option Bool} {dd : Option Addr} {k0 k1 k2 k3 k5 : Option Value} {newId : String} {name : Str} {v : Value} {fs : Array Value}
abbrev excObjD (C dx : Addr) (fs : Array Value) : Obj := { cls := .ref C, dict := some dx, data := .fields fs }
end
end DL
namespace DL
open PySem PySem.Spec PyProof.Rows L2
section
variable {prog : Program} {w : World} {A : Around} {E : Value → Shared → Prop} {s : Shared} {env : Env}
end
section
variable {prog : Program} {w : World} {A : Around} {E : Value → Shared → Prop} {h : Heap} {g : Array GenState} {d : Drawn} {t : Nat} {os : OsState} {env : Env}
variable {nm q : Str} {C N x f cc cda ta : Addr} {bs bm l : List Value} {sn : List Str} {sub : List Value} {ab : Bool} {col : Option Bool} {dd : Option Addr} {k0 k1 k2 k3 k5 : Option Value} {newId : String} {a1 a2 a3 a4 a5 : Value}
end
end DL
namespace DL
open PySem PySem.Spec PyProof.Rows L2
section
variable {prog : Program} {w : World} {A : Around} {h : Heap} {g : Array GenState} {d : Drawn} {t : Nat} {os : OsState}
variable {nm q : Str} {C N x f cda ta : Addr} {bs bm l : List Value} {sn : List Str} {sub : List Value} {ab : Bool} {col : Option Bool} {dd : Option Addr} {k0 k1 k2 k3 k5 : Option Value} {newId : String} {a1 a2 a3 a4 a5 : Value}
end
end DL
namespace DL
open PySem PySem.Spec PyProof.Rows L2
abbrev Desc := Value → Value → Option Obj → Prop
structure FliesE (k : Nat) (H : Hp) (h : Heap) (e : Addr) (c : Value) (dx : Option Addr) (od : Option Obj) (T : Option Addr) : Prop where
  fly : FlyAt h e c dx T
  dict : ∀ d, dx = some d → ∃ o, od = some o ∧ h.get? d = some o
  nod : dx = none → od = none
  ke : k ≤ e
  kd : ∀ d, dx = some d → k ≤ d
  kT : ∀ t, T = some t → k ≤ t
  fe : H e = none
  fd : ∀ d, dx = some d → H d = none
  fT : ∀ t, T = some t → H t = none
  de : ∀ d, dx = some d → d ≠ e
  dT : ∀ d, dx = some d → T ≠ some d
theorem FliesE.mono {j k : Nat} {H : Hp} {h : Heap} {e : Addr} {c : Value} {dx : Option Addr} {od : Option Obj} {T : Option Addr} (x : FliesE k H h e c dx od T) (l : j ≤ k) : FliesE j H h e c dx od T :=
  ⟨x.fly, x.dict, x.nod, Nat.le_trans l x.ke, fun d z => Nat.le_trans l (x.kd d z), fun t z => Nat.le_trans l (x.kT t z), x.fe, x.fd, x.fT, x.de, x.dT⟩
abbrev ZX := Value → Hp → Prop
abbrev XD := Value → M → Prop
abbrev TXd := Dn → M → XD → Prop
abbrev FDX := List Dv → M → XD → Prop
abbrev MoX (t : TXd) : Prop := ∀ δ m (W W' : XD), (∀ c m', W c m' → W' c m') → t δ m W → t δ m W'
def upX (K : PySem.W.Frag) (t : TXd) (Z : ZX) (σ : St) (H : Hp) : Prop := ∃ I δ m, Ok K H I m ∧ Rl K I σ δ ∧ t δ m fun code m' => ∀ H' I', Same I I' → Ok K H' I' m' → Z code H'
abbrev GX := List (Addr × Obj) → St → Prop
structure RE (X : Cx) (G : GX) (Z : ZX) (e : Expr) (t : TXd) : Prop where
  mono : MoX t
  re : ∀ (pins : List (Addr × Obj)) (s : Shared) (σ : St) (H : Hp), G pins σ → Inv X pins σ H s → upX X.K t Z σ H → wpAny (model X.prog X.w) X.A (eval e X.env) (fun _ _ => False) X.xe s
structure RA (X : Cx) (G : GX) (Z : ZX) (es : List Expr) (t : TXd) : Prop where
  mono : MoX t
  ra : ∀ (pos : Pos) (pins : List (Addr × Obj)) (s : Shared) (σ : St) (H : Hp), G pins σ → Inv X pins σ H s → upX X.K t Z σ H → wpAny (model X.prog X.w) X.A (spliced (backTo pos (starEach es X.env))) (fun _ _ => False) X.xe s
structure RS (X : Cx) (G : GX) (Z : ZX) (st : Stmt) (t : TXd) : Prop where
  mono : MoX t
  rs : ∀ (pins : List (Addr × Obj)) (s : Shared) (σ : St) (H : Hp), G pins σ → Inv X pins σ H s → upX X.K t Z σ H → wpAny (model X.prog X.w) X.A (exec st X.env) (fun _ _ => False) X.xe s
structure RSs (X : Cx) (G : GX) (Z : ZX) (st : List Stmt) (t : TXd) : Prop where
  mono : MoX t
  rs : ∀ (pins : List (Addr × Obj)) (s : Shared) (σ : St) (H : Hp), G pins σ → Inv X pins σ H s → upX X.K t Z σ H → wpAny (model X.prog X.w) X.A (execs st X.env) (fun _ _ => False) X.xe s
section
variable {Ds : Desc} {X : Cx} {G : GX} {Z : ZX} {e : Expr} {es : List Expr} {st : Stmt} {rest a b : List Stmt} {tx ty : TXd} {te : TD} {ta : TAd} {tc : TBd} {ts : TSd} {pos : Pos}
def xCall (F : FDX) (t : TAd) : TXd := fun δ m W => t δ m fun ds m1 => F ds m1 W
def xThen (te : TD) (tx : TXd) : TXd := fun δ m W => te δ m fun _ m1 => tx δ m1 W
def xIf (tc : TBd) (ta tb : TXd) : TXd := fun δ m W => tc δ m fun c m1 => if c = true then ta δ m1 W else tb δ m1 W
def xSeq (ts : TSd) (tx : TXd) : TXd := fun δ m W => ts { nx := fun δ' m' => tx δ' m' W, rt := fun _ _ => False } δ m
end
section
variable {Ds : Desc} {P : Program} {w : World} {K : PySem.W.Frag} {mg : Str → Option Value} {base : Heap} {N : List Str} {qual : Str} {scope : Scope} {f : Addr} {cd : Value} {A : Around} {outer : List Env} {s : Shared} {H : Hp} {E : XK}
end
end DL
set_option maxHeartbeats 1000000
namespace DL
open PySem PySem.Spec PyProof.Rows L2
def NumObj (n : Int) (o : Obj) : Prop := ∃ es ep tk, o.data = .dict es ep ∧ StrKeys es ∧ UniqKeys es ∧ ∀ name, nsFind es name = if name = "number" then some (.int n tk) else none
structure Num (P : Program) (w : World) (K : PySem.W.Frag) (mg : Str → Option Value) (base : Heap) (C : Addr) : Prop where
  kp : PySem.W.keepIn K (.ref C) = true
  cls : ∃ nm q N bs bm hdct sn sub ab col dd k0 k1 k2 k3 k5 newId, K.lookup C = some (excClassObj nm q C N bs bm hdct sn sub ab col dd k0 k1 k2 k3 k5 newId) ∧ bm.contains (.type "BaseException") = true
  make : ∀ (A : Around) (h : Heap) (g : Array GenState) (d : Drawn) (t : Nat) (os : OsState) (n : Int) (tk : Tok) (Q : Value → Shared → Prop) (E : Value → Shared → Prop), Room 1 A → Mod K mg base → (∀ b o, base.get? b = some o → h.get? b = some o) → n.natAbs.log2 < 1920 →
    (∀ h' tk' dx a0, (∀ b o, h.get? b = some o → h'.get? b = some o) → h'.get? (h.objs.size + 1) = some (excObjD C dx #[.ref a0, .none, .none, .none, .bool false, .none]) →
      h'.Ns1 dx (fun y => if y = "number" then some (.int n tk) else none) → h.objs.size + 1 < dx → Q (.ref (h.objs.size + 1)) ⟨h', g, d, tk', os⟩) →
    wpAny (model P w) A (call (.ref C) [.int n tk]) Q E ⟨h, g, d, t, os⟩
section
variable {M : Model} {A : Around} {E : Value → Shared → Prop} {env : Env} {nm q : Str} {C N : Addr} {bs bm : List Value} {hdct : Bool} {sn : List Str} {sub : List Value} {ab : Bool} {col : Option Bool} {dd : Option Addr} {k0 k1 k2 k3 k5 : Option Value} {newId : String}
end
section
variable {Ds : Desc} {X : Cx} {G : GX} {Z : ZX} {e : Expr} {te : TD} {C : Addr} {x : Str} {p cpos pos : Pos}
def xRaise (te : TD) : TXd := fun δ m W => te δ m fun y m1 => ∃ n : Int, y = .d (.int n) ∧ n.natAbs.log2 < 1920 ∧ W (.int n 0) m1
end
end DL
set_option maxHeartbeats 1000000
namespace DL
open PySem PySem.Spec PyProof.Rows L2
def At (a : Addr) (o : Obj) : Heap → Prop := fun h => h.get? a = some o
def ExcR (C : Addr) (n : Int) (p : Addr) (I : Hp) (o : HO) : Prop := ∃ ox dx od, o = .ext (At p ox) ∧ ox.cls = .ref C ∧ PySem.W.notCls ox = true ∧ ox.dict = some dx ∧ I dx = some (.ext (At dx od)) ∧ NumObj n od
def mExc (C : Addr) (n : Int) (p : Addr) : MO := .gen (ExcR C n p) fun _ _ _ e ⟨ox, dx, od, h1, h2, h3, h4, h5, h6⟩ => ⟨ox, dx, od, h1, h2, h3, h4, e _ _ h5, h6⟩
section
variable {X : Cx} {pins : List (Addr × Obj)} {σ : L2.St} {H : Hp} {s : Shared}
end
section
variable {M : Model} {A : Around} {E : Value → Shared → Prop} {nm q nm' q' : Str} {C N L N' : Addr} {bs bm bs' bm' : List Value} {hdct hdct' : Bool} {sn sn' : List Str} {sub sub' : List Value} {ab ab' : Bool} {col col' : Option Bool} {dd dd' : Option Addr} {k0 k1 k2 k3 k5 k0' k1' k2' k3' k5' : Option Value} {newId newId' : String}
end
end DL
set_option maxHeartbeats 1000000
namespace DL
open PySem PySem.Spec PyProof.Rows L2
structure Under (K : PySem.W.Frag) (C L : Addr) : Prop where
  sub : ∃ nm q N bs bm hdct sn sub ab col dd k0 k1 k2 k3 k5 newId, K.lookup C = some (excClassObj nm q C N bs bm hdct sn sub ab col dd k0 k1 k2 k3 k5 newId) ∧ (Value.ref C :: bm).contains (.ref L) = true
  top : ∃ nm q N bs bm hdct sn sub ab col dd k0 k1 k2 k3 k5 newId, K.lookup L = some (excClassObj nm q L N bs bm hdct sn sub ab col dd k0 k1 k2 k3 k5 newId) ∧ bm.contains (.type "BaseException") = true
section
variable {X : Cx} {body : List Stmt} {tx : TXd} {C L : Addr} {cN eN fN : Str} {np q1 q2 q3 hpos pos : Pos} {iF iE : Nat}
def sTry (C : Addr) (iF iE : Nat) (tx : TXd) : TSd := fun D δ m => tx δ m fun code m' => ∃ n, code = .int n 0 ∧ ∀ p, m' p = none → D.nx ((δ.set iF (some (.r p))).set iE none) (setM m' p (mExc C n p))
end
end DL
set_option maxHeartbeats 1000000
namespace DL
open PySem PySem.Spec PyProof.Rows L2
open PySem.W (InstAt Looks looks_findIn looks_find looks_mroIn looks_hook handedOut_of)
structure ExcK (K : PySem.W.Frag) (C : Addr) : Prop where
  g : PySem.W.findIn K (.ref C) "__getattribute__" = some (some (.builtin "BaseException.__getattribute__"))
  h : PySem.W.findIn K (.ref C) "__getattr__" = some none
  b : PySem.W.mroIn K C (.type "BaseException") = some true
  d : PySem.W.hasDictIn K C = true
  a : PySem.W.findIn K (.ref C) "__class__" = some (some (.builtin "object.__class__"))
  n : PySem.W.specialIn K (.builtin "object.__class__") "__get__" = some (some (.builtin "getset_descriptor.__get__"))
  t : PySem.W.takesIn K (.builtin "object.__class__") = some true
  m : PySem.W.mroIn K C (.type "object") = some true
  nu : PySem.W.findIn K (.ref C) "number" = some none
section
variable {prog : Program} {w : World} {A : Around} {E : Value → Shared → Prop} {s : Shared} {K : PySem.W.Frag} {x C : Addr} {ox : Obj} {od : Option Obj} {name : Str} {tk : Tok}
end
end DL
set_option maxHeartbeats 1000000
namespace DL
open PySem PySem.Spec PyProof.Rows L2
section
variable {X : Cx} {pins : List (Addr × Obj)} {σ : L2.St} {H : Hp} {s : Shared} {C p : Addr} {n : Int}
end
section
variable {X : Cx} {e : Expr} {te : TD} {pos p p2 tp : Pos} {C : Addr}
def dIsE (C : Addr) (b : Bool) (te : TD) : TD := fun δ m Q => te δ m fun x m1 => ∃ a n, x = .r a ∧ m1 a = some (mExc C n a) ∧ Q (.d (.bool b)) m1
def dNum (C : Addr) (te : TD) : TD := fun δ m Q => te δ m fun x m1 => ∃ a n, x = .r a ∧ m1 a = some (mExc C n a) ∧ Q (.d (.int n)) m1
end
end DL
set_option maxHeartbeats 1000000
namespace DL
open PySem PySem.Spec PyProof.Rows L2
end DL
namespace K
open PySem L2 DL Sp
end K
namespace K
open PySem L2 DL Sp
end K
namespace KC
open PySem L2 DL Sp K K11
def flt (d : PyData) : Prop := (∃ x : Int, d = .int x) ∨ (∃ x : Str, d = .str x ∧ SeqAt.shaped (.str x) = true)
theorem isT_ss : isT "str" "str" = true := by decide
theorem isT_st : isT "str" "tuple" = false := by decide
theorem isT_ts : isT "tuple" "str" = false := by decide
abbrev F_law : FD := K11.F_law
theorem mo_law : MoA F_law := K11.mo_law
abbrev F__law_deck : FD := K11.F__law_deck
abbrev F__law_spiral : FD := K11.F__law_spiral
theorem mo__law_deck : MoA F__law_deck := K11.mo__law_deck
theorem mo__law_spiral : MoA F__law_spiral := K11.mo__law_spiral
end KC
namespace KC
open PySem L2 DL Sp K K11
end KC
namespace KC
open PySem L2 DL Sp K K11
end KC
set_option maxHeartbeats 1000000
namespace Sp
def bR (f g R : Int) : Int := 2 * R * (f + g + 2 * R - 1)
theorem bR_succ (f g R : Int) : bR f g (R + 1) = bR f g R + 2 * f + 2 * g + 8 * R + 2 := by unfold bR; grind
theorem bR_zero (f g : Int) : bR f g 0 = 0 := by unfold bR; simp
theorem bR_le {f g R R' : Int} (hf : 1 ≤ f) (hg : 1 ≤ g) (hR : 0 ≤ R) (h : R ≤ R') : bR f g R ≤ bR f g R' := by
  unfold bR
  exact Int.mul_le_mul (by omega) (by omega) (by omega) (by omega)
theorem bR_lt {f g R R' : Int} (hf : 1 ≤ f) (hg : 1 ≤ g) (hR : 0 ≤ R) (h : R < R') : bR f g R + 2 * f + 2 * g + 8 * R + 2 ≤ bR f g R' := by
  rw [← bR_succ]; exact bR_le hf hg (by omega) (by omega)
def ArmAt (f g o u v : Int) : Prop := ∃ R : Int, 0 ≤ R ∧
  ((v = -R ∧ -R ≤ u ∧ u ≤ f + R ∧ o = bR f g R + (u + R)) ∨
   (u = f + R ∧ -R ≤ v ∧ v ≤ g + R ∧ o = bR f g R + f + 2 * R + (v + R)) ∨
   (v = g + R ∧ -R - 1 ≤ u ∧ u ≤ f + R ∧ o = bR f g R + f + g + 4 * R + (f + R - u)) ∨
   (u = -R - 1 ∧ -R - 1 ≤ v ∧ v ≤ g + R ∧ o = bR f g R + 2 * f + g + 6 * R + 1 + (g + R - v)))
theorem ArmAt.inj {f g o o' u v : Int} (hf : 1 ≤ f) (hg : 1 ≤ g) (h : ArmAt f g o u v) (h' : ArmAt f g o' u v) : o = o' := by
  obtain ⟨R, h0, h⟩ := h
  obtain ⟨S, k0, k⟩ := h'
  have e1 := bR_succ f g R
  have e2 := bR_succ f g S
  by_cases c : R = S
  · subst c; omega
  by_cases c2 : S = R + 1
  · subst c2; omega
  by_cases c3 : R = S + 1
  · subst c3; omega
  · exfalso; omega
theorem ArmAt.uniq {f g o u v u' v' : Int} (hf : 1 ≤ f) (hg : 1 ≤ g) (h : ArmAt f g o u v) (h' : ArmAt f g o u' v') : u = u' ∧ v = v' := by
  obtain ⟨R, h0, h⟩ := h
  obtain ⟨S, k0, k⟩ := h'
  have e1 := bR_succ f g R
  have e2 := bR_succ f g S
  rcases Int.lt_trichotomy R S with c | c | c
  · by_cases c2 : S = R + 1
    · subst c2; omega
    · exfalso
      have := bR_lt (f := f) (g := g) (R := R + 1) (R' := S) hf hg (by omega) (by omega)
      omega
  · subst c; omega
  · by_cases c2 : R = S + 1
    · subst c2; omega
    · exfalso
      have := bR_lt (f := f) (g := g) (R := S + 1) (R' := R) hf hg (by omega) (by omega)
      omega
theorem ArmAt.next {f g o u v u' v' : Int} (hf : 1 ≤ f) (hg : 1 ≤ g) (h : ArmAt f g o u v) (h' : ArmAt f g (o + 1) u' v') :
    (u' = u + 1 ∧ v' = v) ∨ (u' = u ∧ v' = v + 1) ∨ (u' = u - 1 ∧ v' = v) ∨ (u' = u ∧ v' = v - 1) := by
  obtain ⟨R, h0, h⟩ := h
  obtain ⟨S, k0, k⟩ := h'
  have e1 := bR_succ f g R
  have e2 := bR_succ f g S
  rcases Int.lt_trichotomy R S with c | c | c
  · by_cases c2 : S = R + 1
    · subst c2; omega
    · exfalso
      have := bR_lt (f := f) (g := g) (R := R + 1) (R' := S) hf hg (by omega) (by omega)
      omega
  · subst c; omega
  · by_cases c2 : R = S + 1
    · subst c2; omega
    · exfalso
      have := bR_lt (f := f) (g := g) (R := S + 1) (R' := R) hf hg (by omega) (by omega)
      omega
theorem arm_one {o u v : Int} (h : ArmAt 1 1 o u v) : po u v = o := by
  obtain ⟨R, h0, h⟩ := h
  have e : bR 1 1 R = 4 * R * R + 2 * R := by unfold bR; grind
  have e1 : 4 * (R + 1) * (R + 1) = 4 * R * R + 8 * R + 4 := by grind
  rw [e] at h
  rcases h with ⟨a, b, c, d⟩ | ⟨a, b, c, d⟩ | ⟨a, b, c, d⟩ | ⟨a, b, c, d⟩
  · by_cases k : u ≤ R
    · rw [po_low a b k]; omega
    · rw [po_right (k := R + 1) (by omega) (by omega) (by omega)]; omega
  · by_cases k : v ≤ R
    · rw [po_right (k := R + 1) (by omega) (by omega) (by omega)]; omega
    · rw [po_top (k := R + 1) (by omega) (by omega) (by omega)]; omega
  · by_cases k : -R - 1 < u
    · rw [po_top (k := R + 1) (by omega) (by omega) (by omega)]; omega
    · rw [po_left (k := R + 1) (by omega) (by omega) (by omega)]; omega
  · by_cases k : -R - 1 < v
    · rw [po_left (k := R + 1) (by omega) (by omega) (by omega)]; omega
    · rw [po_low (k := R + 1) (by omega) (by omega) (by omega)]; omega
def rl (f g k : Int) : Int := (if k % 2 = 1 then g else f) + k / 2
end Sp
namespace K
open PySem L2 DL Sp
def ArmB (f g : Int) : Prop := (1 ≤ f ∧ f < 2 ^ 30) ∧ (1 ≤ g ∧ g < 2 ^ 30)
end K
set_option maxHeartbeats 1000000
namespace Sp
theorem arm_zero (f g : Int) (hf : 1 ≤ f) : ArmAt f g 0 0 0 := ⟨0, by decide, .inl ⟨by decide, by decide, by omega, by rw [bR_zero]; rfl⟩⟩
end Sp
namespace KC
open PySem L2 DL Sp K K11
def ArmL (q : Nat) (r : Bool) (f g : Int) (L : List PyData) : Prop := ∀ (i : Nat) d, L[i]? = some d → ∃ u v, ArmAt f g (i : Nat) u v ∧ d = prD (fpx q r u v) (fpy q r u v)
def ArmS (f g : Int) : Prop := (1 ≤ f ∧ f ≤ 1000000) ∧ (1 ≤ g ∧ g ≤ 1000000)
theorem ArmS.b {f g : Int} (h : ArmS f g) : ArmB f g := by obtain ⟨⟨a, b⟩, c, d⟩ := h; exact ⟨⟨a, by omega⟩, c, by omega⟩
theorem armL_app {q : Nat} {r : Bool} {f g : Int} {L : List PyData} {u v : Int} (h : ArmL q r f g L) (a : ArmAt f g (L.length : Nat) u v) : ArmL q r f g (L ++ [prD (fpx q r u v) (fpy q r u v)]) := by
  intro i d hi
  by_cases c : i < L.length
  · rw [List.getElem?_append_left c] at hi
    exact h i d hi
  · rw [List.getElem?_append_right (by omega)] at hi
    have e : i = L.length := by
      have := (List.getElem?_eq_some_iff.mp hi).1
      simp at this; omega
    subst e
    simp at hi
    exact ⟨u, v, a, hi.symm⟩
theorem armL_one {q : Nat} {r : Bool} {f g : Int} (hf : 1 ≤ f) : ArmL q r f g [prD 0 0] := by
  intro i d hi
  have e : i = 0 := by have := (List.getElem?_eq_some_iff.mp hi).1; simpa using this
  subst e
  simp at hi
  refine ⟨0, 0, arm_zero f g hf, ?_⟩
  rw [← hi]
  unfold fpx fpy rotx roty mir
  repeat' split
  all_goals simp
theorem last_at {L : List PyData} {d : PyData} {k : Nat} (hl : L.length = k + 1) (h : L[k]? = some d) : atI (L.map Dv.d) (-1) = some (.d d) := by
  unfold atI ixN
  rw [if_neg (by decide), if_pos (by rw [List.length_map]; omega)]
  rw [List.length_map, hl]
  show (L.map Dv.d)[((-1 : Int) + ((k + 1 : Nat) : Int)).toNat]? = _
  rw [show ((-1 : Int) + ((k + 1 : Nat) : Int)).toNat = k by omega, List.getElem?_map, h]
  rfl
end KC
namespace KA
open PySem L2 DL Sp K K11
end KA
namespace KB
open PySem L2 DL Sp K K11
end KB
namespace KC
open PySem L2 DL Sp K K11
end KC
namespace Sp
end Sp
namespace DL
end DL
namespace KA
open PySem L2 DL Sp K K11 KC
structure KvA (s : Int) (q : Nat) (r : Bool) (f g : Int) (n : Nat) (kvs : List (List Int × Dv)) : Prop where
  len : kvs.length = n
  of : ∀ p ∈ kvs, ∃ (j : Nat) (u v : Int), j < n ∧ ArmAt f g (j : Nat) u v ∧ p = ([fpx q r u v, fpy q r u v], I (s + (j : Nat)))
  has : ∀ j : Nat, j < n → ∃ u v, ArmAt f g (j : Nat) u v ∧ ([fpx q r u v, fpy q r u v], I (s + (j : Nat))) ∈ kvs
end KA
namespace KD
open PySem L2 DL Sp K K11 KC KA
end KD
namespace K
open PySem L2 DL Sp
end K
namespace KB
open PySem L2 DL Sp K K11
end KB
namespace KC
open PySem L2 DL Sp K K11
theorem arm_place {q : Nat} (hq4 : q < 4) {r : Bool} {o u v : Int} (h : ArmAt 1 1 o u v) : at' q r (fpx q r u v) (fpy q r u v) = o := (at_fp hq4 r u v).trans (arm_one h)
end KC
namespace KB
open PySem L2 DL Sp K K11
end KB
namespace Sp
end Sp
namespace KL
open PySem L2 DL Sp K
end KL
namespace K07
open PySem L2 DL Sp K KL
end K07
namespace KL
open PySem L2 DL Sp K
end KL
namespace K07
open PySem L2 DL Sp K KL
open KC (arm_place)
end K07
namespace KL
open PySem L2 DL Sp K
end KL
namespace K07
open PySem L2 DL Sp K
end K07
namespace K07
open PySem L2 DL Sp K
end K07
namespace K06
open PySem L2 DL Sp K KL
end K06
namespace Sp
open DL (minI maxI absI)
end Sp
namespace KL
open PySem L2 DL Sp K
end KL
namespace K05
open PySem L2 DL Sp K KL
end K05
namespace K03
open PySem L2 DL Sp K KL
open KC (ArmL armL_app armL_one last_at)
def F__law_any_place : FD := fun ds m Q => ∃ a o c, ds = [.r a] ∧ m a = some o ∧ DeckIs o c ∧ c < 2 ^ 36 ∧ ∀ x y o', (-(10 ^ 9) ≤ x ∧ x ≤ 10 ^ 9 ∧ -(10 ^ 9) ≤ y ∧ y ≤ 10 ^ 9) → DeckIs o' (c + 5) → Q (pr x y) (setM m a o')
theorem mo__law_any_place : MoA F__law_any_place := fun _ _ _ _ h ⟨a, o, c, e, h1, h2, h3, z⟩ => ⟨a, o, c, e, h1, h2, h3, fun x y o' a b => h _ _ (z x y o' a b)⟩
theorem at_memP : ∀ (ps : List (Int × Int)) {v : Int}, 0 ≤ v → v < ps.length → ∃ x y, atI (ps.map fun p => prD p.1 p.2) v = some (prD x y) := by
  intro ps v h0 h1
  obtain ⟨k, rfl⟩ : ∃ k : Nat, v = k := ⟨v.toNat, by omega⟩
  have hk : k < ps.length := by omega
  refine ⟨ps[k].1, ps[k].2, atI_of (k := k) (by omega) ?_⟩
  rw [List.getElem?_map, List.getElem?_eq_getElem hk]; rfl
end K03
namespace DL
open PySem PySem.Spec PyProof.Rows
def advM (m : Nat) (p : SetTable.Probe) : SetTable.Probe := SetTable.advance { (default : SetTable) with mask := m } p
def path (m : Nat) (h : Int) : Nat → SetTable.Probe
  | 0 => SetTable.probeStart { (default : SetTable) with mask := m } h
  | k + 1 => advM m (path m h k)
def lps (m : Nat) (h : Int) : Nat → Nat × Nat
  | 0 => (SetTable.bits h % (m + 1), SetTable.bits h)
  | n + 1 => SetTable.leap m (lps m h n).1 (lps m h n).2
def rl (m i : Nat) : Nat := SetTable.runEnd m i - i
theorem rl_le (m i : Nat) : rl m i ≤ 9 := by unfold rl SetTable.runEnd; split <;> omega
def rK (m : Nat) (h : Int) : Nat → Nat
  | 0 => 0
  | n + 1 => rK m h n + rl m (lps m h n).1 + 1
theorem rK_le (m : Nat) (h : Int) : ∀ n, rK m h n ≤ 10 * n
  | 0 => Nat.le_refl _
  | n + 1 => by
    have := rK_le m h n
    have := rl_le m (lps m h n).1
    show rK m h n + _ + 1 ≤ _
    omega
theorem path_in {m : Nat} {h : Int} {k i q : Nat} (e : path m h k = ⟨i, rl m i, i, q, none⟩) : ∀ r, r ≤ rl m i → path m h (k + r) = ⟨i + r, rl m i - r, i, q, none⟩
  | 0, _ => by rw [Nat.add_zero, e]; rfl
  | r + 1, hr => by
    show advM m (path m h (k + r)) = _
    rw [path_in e r (by omega)]
    unfold advM SetTable.advance
    dsimp only
    rw [if_pos (by omega)]
    congr 1 <;> omega
theorem path_run (m : Nat) (h : Int) : ∀ n, path m h (rK m h n) = ⟨(lps m h n).1, rl m (lps m h n).1, (lps m h n).1, (lps m h n).2, none⟩
  | 0 => rfl
  | n + 1 => by
    show advM m (path m h (rK m h n + rl m (lps m h n).1)) = _
    rw [path_in (path_run m h n) _ (Nat.le_refl _)]
    unfold advM SetTable.advance
    dsimp only
    rw [if_neg (by omega)]
    rfl
theorem lps_snd (m : Nat) (h : Int) : ∀ n, (lps m h n).2 = SetTable.bits h / 32 ^ n
  | 0 => by show SetTable.bits h = _; simp
  | n + 1 => by
    show (lps m h n).2 / 32 = _
    rw [lps_snd m h n, Nat.div_div_eq_div_mul, Nat.pow_succ]
theorem lps_le (m : Nat) (h : Int) : ∀ n, (lps m h n).1 ≤ m
  | 0 => by show SetTable.bits h % (m + 1) ≤ m; have := Nat.mod_lt (SetTable.bits h) (show 0 < m + 1 by omega); omega
  | n + 1 => by show (_ % (m + 1)) ≤ m; exact Nat.le_of_lt_succ (Nat.mod_lt _ (by omega))
theorem bits_lt (h : Int) : SetTable.bits h < 2 ^ 64 := by unfold SetTable.bits; omega
theorem lps_zero (m : Nat) (h : Int) (n : Nat) (hn : 13 ≤ n) : (lps m h n).2 = 0 := by
  rw [lps_snd]
  refine Nat.div_eq_of_lt (Nat.lt_of_lt_of_le (bits_lt h) ?_)
  exact Nat.le_trans (show 2 ^ 64 ≤ 32 ^ 13 by decide) (Nat.pow_le_pow_right (by decide) hn)
def lcg (m : Nat) : Nat → Nat → Nat
  | 0, i => i
  | n + 1, i => (lcg m n i * 5 + 1) % (m + 1)
theorem lps_lcg (m : Nat) (h : Int) : ∀ n, (lps m h (13 + n)).1 = lcg m n (lps m h 13).1
  | 0 => rfl
  | n + 1 => by
    show ((lps m h (13 + n)).1 * 5 + 1 + (lps m h (13 + n)).2 / 32) % (m + 1) = _
    rw [lps_zero m h (13 + n) (by omega), lps_lcg m h n]
    rfl
theorem lcg_all : ∀ m ∈ [7, 31], ∀ i < m + 1, ∀ j < m + 1, ∃ n < m + 1, lcg m n i = j := by decide +kernel
theorem met_all {m : Nat} (hm : m = 7 ∨ m = 31) (h : Int) {j : Nat} (hj : j ≤ m) : ∃ n, n ≤ 13 + m ∧ (lps m h n).1 = j := by
  obtain ⟨n, h1, h2⟩ := lcg_all m (by simpa using hm) (lps m h 13).1 (by have := lps_le m h 13; omega) j (by omega)
  exact ⟨13 + n, by omega, by rw [lps_lcg]; exact h2⟩
theorem path_dum (m : Nat) (h : Int) : ∀ k, (path m h k).dummy = none
  | 0 => rfl
  | k + 1 => by
    show (advM m (path m h k)).dummy = none
    unfold advM SetTable.advance
    split <;> exact path_dum m h k
def OnP (m : Nat) (occ : Nat → Prop) (h : Int) (j : Nat) : Prop := ∃ k, (path m h k).j = j ∧ ∀ k' < k, occ (path m h k').j
theorem OnP.mono {m : Nat} {occ occ' : Nat → Prop} {h : Int} {j : Nat} (hh : ∀ j, occ j → occ' j) : OnP m occ h j → OnP m occ' h j
  | ⟨k, e, q⟩ => ⟨k, e, fun k' hk => hh _ (q k' hk)⟩
theorem exists_first {p : Nat → Prop} [DecidablePred p] {n : Nat} (h : p n) : ∃ k, k ≤ n ∧ p k ∧ ∀ k' < k, ¬ p k' := by
  induction n using Nat.strongRecOn with
  | _ n ih =>
    by_cases c : ∃ k, k < n ∧ p k
    · obtain ⟨k, h1, h2⟩ := c
      obtain ⟨k2, a, b, d⟩ := ih k h1 h2
      exact ⟨k2, by omega, b, d⟩
    · exact ⟨n, Nat.le_refl _, h, fun k' hk hp => c ⟨k', hk, hp⟩⟩
theorem nodupN_len {L : List Nat} : ∀ {zs : List Nat}, zs.Nodup → (∀ x ∈ zs, x ∈ L) → zs.length ≤ L.length := by
  intro zs
  induction zs generalizing L with
  | nil => intro _ _; exact Nat.zero_le _
  | cons a t ih =>
    intro hn hs
    obtain ⟨h1, h2⟩ := List.nodup_cons.mp hn
    have ha := hs a (by simp)
    have := ih (L := L.erase a) h2 fun x hx => (List.mem_erase_of_ne (show x ≠ a from fun e => h1 (by rw [← e]; exact hx))).mpr (hs x (List.mem_cons_of_mem _ hx))
    rw [List.length_erase_of_mem ha] at this
    have : 0 < L.length := List.length_pos_of_mem ha
    simp only [List.length_cons]; omega
theorem pigeon {m : Nat} {xs : List Nat} (h : xs.length ≤ m) : ∃ j, j ≤ m ∧ j ∉ xs := by
  by_cases c : ∃ j, j ≤ m ∧ j ∉ xs
  · exact c
  · exfalso
    have := nodupN_len (L := xs) (zs := List.range (m + 1)) List.nodup_range fun j hj => by
      by_cases d : j ∈ xs
      · exact d
      · exact absurd ⟨j, by have := List.mem_range.mp hj; omega, d⟩ c
    rw [List.length_range] at this
    omega
theorem slot_cases {t : SetTable} (hd : t.dummies = #[]) (hs : t.place.toList.Pairwise (· < ·)) (j : Nat) :
    (t.slot j = .empty ∧ j ∉ t.place.toList) ∨ ∃ i, t.slot j = .live i ∧ t.place.toList[i]? = some j := by
  unfold SetTable.slot
  dsimp only
  split
  · rename_i c
    refine .inr ⟨_, rfl, ?_⟩
    rw [Array.getElem?_toList]
    exact eq_of_beq c
  · rename_i c
    have : SetTable.has t.dummies j = false := by rw [hd]; simp [SetTable.has]
    rw [this]
    refine .inl ⟨rfl, fun hj => c ?_⟩
    obtain ⟨i, hi⟩ := List.getElem?_of_mem hj
    rw [Array.getElem?_toList] at hi
    obtain ⟨h1, h2, h3⟩ := below_spec t.place j hs
    have e : SetTable.below t.place j = i := by
      rcases Nat.lt_trichotomy (SetTable.below t.place j) i with c1 | c1 | c1
      · have hb : SetTable.below t.place j < t.place.size := by have := (Array.getElem?_eq_some_iff.mp hi).1; omega
        have q1 := h3 _ _ (Array.getElem?_eq_getElem hb) (Nat.le_refl _)
        obtain ⟨p2, q2⟩ := Array.getElem?_eq_some_iff.mp hi
        have := List.pairwise_iff_getElem.mp hs _ i (by simpa using hb) (by simpa using p2) c1
        simp only [Array.getElem_toList] at this
        omega
      · exact c1
      · have := h2 _ _ hi c1; omega
    rw [e, hi]
    simp
structure TI (w : World) (t : SetTable) (es : List (Int × Value)) : Prop where
  tk : Tk w t
  msk : t.mask = 7 ∨ t.mask = 31
  len : t.place.toList.length = es.length
  room : t.place.toList.length ≤ t.mask
  on : ∀ p ∈ es.zip t.place.toList, OnP t.mask (· ∈ t.place.toList) p.1.1 p.2
variable {w : World} {t : SetTable} {es : List (Int × Value)}
theorem TI.first (I : TI w t es) (h : Int) : ∃ K, K < 10 * SetTable.turns t.mask ∧ (path t.mask h K).j ∉ t.place.toList ∧ ∀ k < K, (path t.mask h k).j ∈ t.place.toList := by
  obtain ⟨j, hj, hn⟩ := pigeon I.room
  obtain ⟨n, hn1, hn2⟩ := met_all I.msk h hj
  have e := path_run t.mask h n
  have hle := rK_le t.mask h n
  obtain ⟨K, h1, h2, h3⟩ := exists_first (p := fun k => (path t.mask h k).j ∉ t.place.toList) (n := rK t.mask h n) (by rw [e, hn2]; exact hn)
  refine ⟨K, ?_, h2, fun k hk => Classical.not_not.mp (h3 k hk)⟩
  unfold SetTable.turns; omega
theorem TI.empty (I : TI w t es) {j : Nat} (h : j ∉ t.place.toList) : t.slot j = .empty := by
  rcases slot_cases I.tk.dum I.tk.ris j with h1 | ⟨i, h1, h2⟩
  · exact h1.1
  · exact absurd (List.mem_of_getElem? h2) h
theorem TI.live (I : TI w t es) {j : Nat} (h : j ∈ t.place.toList) : ∃ i, t.slot j = .live i ∧ t.place.toList[i]? = some j := by
  rcases slot_cases I.tk.dum I.tk.ris j with h1 | h1
  · exact absurd h h1.2
  · exact h1
theorem TI.go (I : TI w t es) (ha : Nat → Int) (h : Int) {K : Nat} (hK : (path t.mask h K).j ∉ t.place.toList) (hb : ∀ k < K, (path t.mask h k).j ∈ t.place.toList) :
    ∀ (fuel k : Nat), k ≤ K → K - k < fuel →
      (SetTable.probe.go t ha h fuel (path t.mask h k) = some (.empty (path t.mask h K).j none) ∧ ∀ k', k ≤ k' → k' < K → ∀ i, t.slot (path t.mask h k').j = .live i → ha i ≠ h) ∨
      ∃ k' i, k ≤ k' ∧ k' < K ∧ t.slot (path t.mask h k').j = .live i ∧ t.place.toList[i]? = some (path t.mask h k').j ∧ ha i = h ∧
        SetTable.probe.go t ha h fuel (path t.mask h k) = some (.candidate (path t.mask h k').j i (path t.mask h (k' + 1))) ∧ ∀ k2, k ≤ k2 → k2 < k' → ∀ i, t.slot (path t.mask h k2).j = .live i → ha i ≠ h := by
  intro fuel
  induction fuel with
  | zero => intro k _ h2; omega
  | succ n ih =>
    intro k h1 h2
    unfold SetTable.probe.go
    by_cases c : k = K
    · subst c
      rw [I.empty hK, path_dum]
      exact .inl ⟨rfl, fun k' a b => by omega⟩
    · obtain ⟨i, e1, e2⟩ := I.live (hb k (by omega))
      rw [e1]
      dsimp only
      by_cases d : ha i = h
      · rw [if_pos (by simp [d])]
        exact .inr ⟨k, i, Nat.le_refl _, by omega, e1, e2, d, rfl, fun k2 a b => by omega⟩
      · rw [if_neg (by simpa using d), show t.advance (path t.mask h k) = path t.mask h (k + 1) from rfl]
        have st : ∀ k2, k ≤ k2 → ¬ k + 1 ≤ k2 → ∀ i, t.slot (path t.mask h k2).j = .live i → ha i ≠ h := fun k2 a b i' hi' => by
          have : k2 = k := by omega
          subst this
          rw [e1] at hi'
          cases hi'
          exact d
        rcases ih (k + 1) (by omega) (by omega) with ⟨g, q⟩ | ⟨k', i', a1, a2, a3, a4, a5, a6, a7⟩
        · refine .inl ⟨g, fun k' a b i' hi' => ?_⟩
          by_cases z : k + 1 ≤ k'
          · exact q k' z b i' hi'
          · exact st k' a z i' hi'
        · refine .inr ⟨k', i', by omega, a2, a3, a4, a5, a6, fun k2 a b i2 hi2 => ?_⟩
          by_cases z : k + 1 ≤ k2
          · exact a7 k2 z b i2 hi2
          · exact st k2 a z i2 hi2
theorem TI.has (I : TI w t es) {h : Int} {v : Value} (he : (h, v) ∈ es) {K : Nat} (hK : (path t.mask h K).j ∉ t.place.toList) :
    ∃ i k, k < K ∧ es[i]? = some (h, v) ∧ t.slot (path t.mask h k).j = .live i := by
  obtain ⟨i, hi⟩ := List.getElem?_of_mem he
  have hl : i < t.place.toList.length := by rw [I.len]; exact (List.getElem?_eq_some_iff.mp hi).1
  obtain ⟨j, hj⟩ : ∃ j, t.place.toList[i]? = some j := ⟨_, List.getElem?_eq_getElem hl⟩
  have hz : (es.zip t.place.toList)[i]? = some ((h, v), j) := by rw [List.getElem?_zip_eq_some]; exact ⟨hi, hj⟩
  obtain ⟨k, hk, hb⟩ := I.on _ (List.mem_of_getElem? hz)
  dsimp only at hk hb
  refine ⟨i, k, ?_, hi, ?_⟩
  · rcases Nat.lt_trichotomy k K with c | c | c
    · exact c
    · subst c; exact absurd (by rw [hk]; exact List.mem_of_getElem? hj) hK
    · exact absurd (hb K c) hK
  · obtain ⟨i2, e1, e2⟩ := I.live (List.mem_of_getElem? hj)
    rw [hk, e1]
    have hn : t.place.toList.Nodup := I.tk.ris.imp fun h => Nat.ne_of_lt h
    have : i2 = i := (List.getElem?_inj (by exact (List.getElem?_eq_some_iff.mp e2).1) hn).mp (e2.trans hj.symm)
    rw [this]
theorem zip_ins {α β : Type} (xs : List α) (ys : List β) (h : ys.length = xs.length) (n : Nat) (x : α) (y : β) : (xs.take n ++ x :: xs.drop n).zip (ys.take n ++ y :: ys.drop n) = (xs.zip ys).take n ++ (x, y) :: (xs.zip ys).drop n := by
  rw [List.zip_append (by rw [List.length_take, List.length_take, h]), List.zip_cons_cons]
  unfold List.zip
  rw [List.take_zipWith, List.drop_zipWith]
theorem TI.put (I : TI w t es) {h : Int} {v : Value} {K : Nat} (hK : (path t.mask h K).j ∉ t.place.toList) (hb : ∀ k < K, (path t.mask h k).j ∈ t.place.toList) (hr : es.length + 1 ≤ t.mask) :
    TI w (t.put (path t.mask h K).j).1 (es.take (t.put (path t.mask h K).j).2 ++ (h, v) :: es.drop (t.put (path t.mask h K).j).2) := by
  obtain ⟨j, hj⟩ : ∃ j, j = (path t.mask h K).j := ⟨_, rfl⟩
  rw [← hj] at hK ⊢
  have tk := I.tk.put (I.empty hK)
  have pe : (t.put j).1.place.toList = t.place.toList.take (SetTable.below t.place j) ++ j :: t.place.toList.drop (SetTable.below t.place j) := SetTable.toList_insertAt _ _ _
  have p2 : (t.put j).2 = SetTable.below t.place j := rfl
  have hm : ∀ x, x ∈ (t.put j).1.place.toList ↔ x = j ∨ x ∈ t.place.toList := fun x => by
    rw [pe, List.mem_append, List.mem_cons]
    conv => rhs; rw [← List.take_append_drop (SetTable.below t.place j) t.place.toList, List.mem_append]
    constructor
    · rintro (h | h | h)
      · exact .inr (.inl h)
      · exact .inl h
      · exact .inr (.inr h)
    · rintro (h | h | h)
      · exact .inr (.inl h)
      · exact .inl h
      · exact .inr (.inr h)
  have hl : (t.put j).1.place.toList.length = es.length + 1 := by
    rw [← I.len, pe, List.length_append, List.length_cons, List.length_take, List.length_drop]; omega
  refine ⟨tk, I.msk, ?_, ?_, ?_⟩
  · rw [hl, List.length_append, List.length_cons, List.length_take, List.length_drop]; omega
  · rw [hl]; exact hr
  · rw [p2, pe, zip_ins _ _ I.len]
    intro p hp
    rw [← pe]
    have old : ∀ p ∈ es.zip t.place.toList, OnP t.mask (· ∈ (t.put j).1.place.toList) p.1.1 p.2 := fun p hp => (I.on p hp).mono fun x hx => (hm x).mpr (.inr hx)
    rcases List.mem_append.mp hp with hp | hp
    · exact old p (List.mem_of_mem_take hp)
    · rcases List.mem_cons.mp hp with rfl | hp
      · exact ⟨K, hj.symm, fun k hk => (hm _).mpr (.inr (hb k hk))⟩
      · exact old p (List.mem_of_mem_drop hp)
end DL
namespace DL
open PySem PySem.Spec PyProof.Rows
def occO (ow : Array (Option Nat)) (j : Nat) : Prop := (ow.getD j (some 0)).isNone = false
theorem free_spec {m : Nat} {h : Int} {ow : Array (Option Nat)} : ∀ (fuel n : Nat), (∀ k < rK m h n, occO ow (path m h k).j) →
    (∀ j, SetTable.layClean.free m ow fuel (lps m h n).1 (lps m h n).2 = some j → (ow.getD j (some 0)).isNone = true ∧ OnP m (occO ow) h j) ∧
    ((∃ n2, n ≤ n2 ∧ n2 < n + fuel ∧ (ow.getD (lps m h n2).1 (some 0)).isNone = true) → ∃ j, SetTable.layClean.free m ow fuel (lps m h n).1 (lps m h n).2 = some j) := by
  intro fuel
  induction fuel with
  | zero => intro n hb; exact ⟨fun j e => by simp [SetTable.layClean.free] at e, fun ⟨n2, a, b, _⟩ => by omega⟩
  | succ f ih =>
    intro n hb
    have hlen : SetTable.runEnd m (lps m h n).1 + 1 - (lps m h n).1 = rl m (lps m h n).1 + 1 := by
      unfold rl
      have : (lps m h n).1 ≤ SetTable.runEnd m (lps m h n).1 := by unfold SetTable.runEnd; split <;> omega
      omega
    have hp : ∀ r, r ≤ rl m (lps m h n).1 → (path m h (rK m h n + r)).j = (lps m h n).1 + r := fun r hr => by rw [path_in (path_run m h n) r hr]
    unfold SetTable.layClean.free
    rw [hlen]
    cases e : (List.range (rl m (lps m h n).1 + 1)).find? fun k => (ow.getD ((lps m h n).1 + k) (some 0)).isNone with
    | some k =>
      dsimp only
      refine ⟨fun j ej => ?_, fun _ => ⟨_, rfl⟩⟩
      cases ej
      obtain ⟨h1, as, bs, h2, h3⟩ := List.find?_eq_some_iff_append.mp e
      have hk : k ≤ rl m (lps m h n).1 := by
        have := List.mem_of_find?_eq_some e
        have := List.mem_range.mp this
        omega
      refine ⟨h1, rK m h n + k, hp k hk, fun k' hk' => ?_⟩
      by_cases c : k' < rK m h n
      · exact hb k' c
      · obtain ⟨r, rfl⟩ : ∃ r, k' = rK m h n + r := ⟨k' - rK m h n, by omega⟩
        rw [hp r (by omega)]
        have hr : r ∈ as := by
          have hlas : as.length = k := by
            have := congrArg (fun l => l[as.length]?) h2
            simp only [List.getElem?_append_right (Nat.le_refl _), Nat.sub_self, List.getElem?_cons_zero] at this
            rw [List.getElem?_range] at this
            · simpa using this
            · have := congrArg List.length h2
              simp at this
              omega
          have : (List.range (rl m (lps m h n).1 + 1))[r]? = (as ++ k :: bs)[r]? := by rw [h2]
          rw [List.getElem?_range (by omega), List.getElem?_append_left (by omega)] at this
          exact List.mem_of_getElem? this.symm
        have := h3 r hr
        unfold occO
        simpa only [Bool.not_eq_true'] using this
    | none =>
      dsimp only
      have hn := List.find?_eq_none.mp e
      have ih := ih (n + 1) (fun k hk => by
        by_cases c : k < rK m h n
        · exact hb k c
        · obtain ⟨r, rfl⟩ : ∃ r, k = rK m h n + r := ⟨k - rK m h n, by omega⟩
          have hr : r ≤ rl m (lps m h n).1 := by
            have : rK m h (n + 1) = rK m h n + rl m (lps m h n).1 + 1 := rfl
            omega
          rw [hp r hr]
          have := hn r (List.mem_range.mpr (by omega))
          unfold occO
          exact Bool.eq_false_iff.mpr this)
      refine ⟨ih.1, fun ⟨n2, a, b, q⟩ => ih.2 ⟨n2, ?_, by omega, q⟩⟩
      by_cases c : n2 = n
      · subst c
        have := hn 0 (List.mem_range.mpr (by omega))
        rw [Nat.add_zero] at this
        exact absurd q this
      · omega
def liveO (m : Nat) (ow : Array (Option Nat)) : List (Nat × Nat) := (List.range (m + 1)).filterMap fun j => (ow.getD j none).map (j, ·)
theorem fm_congr {α β : Type} {f g : α → Option β} : ∀ {l : List α}, (∀ i ∈ l, g i = f i) → l.filterMap g = l.filterMap f
  | [], _ => rfl
  | a :: l, h => by rw [List.filterMap_cons, List.filterMap_cons, h a (by simp), fm_congr fun i hi => h i (List.mem_cons_of_mem _ hi)]
theorem filterMap_at {β : Type} (f g : Nat → Option β) (j : Nat) (b : β) (hf : f j = none) (hg : g j = some b) (he : ∀ i, i ≠ j → f i = g i) : ∀ n, j < n → ((List.range n).filterMap g).Perm (b :: (List.range n).filterMap f) := by
  intro n
  induction n with
  | zero => intro h; omega
  | succ n ih =>
    intro hn
    rw [List.range_succ, List.filterMap_append, List.filterMap_append]
    by_cases c : j = n
    · subst c
      have e : (List.range j).filterMap g = (List.range j).filterMap f := fm_congr fun i hi => (he i (by have := List.mem_range.mp hi; omega)).symm
      rw [e]
      simp only [List.filterMap_cons, List.filterMap_nil, hf, hg, List.append_nil]
      exact List.perm_append_singleton _ _
    · rw [show [n].filterMap g = [n].filterMap f by simp only [List.filterMap_cons, List.filterMap_nil, he n (Ne.symm c)]]
      exact (ih (by omega)).append_right _
theorem live_set {m : Nat} {ow : Array (Option Nat)} (hs : ow.size = m + 1) {j k : Nat} (hj : (ow.getD j (some 0)).isNone = true) : (liveO m (ow.setIfInBounds j (some k))).Perm ((j, k) :: liveO m ow) := by
  have hjb : j < ow.size := by
    by_cases c : j < ow.size
    · exact c
    · rw [Array.getD_eq_getD_getElem?, Array.getElem?_eq_none (by omega)] at hj
      simp at hj
  refine filterMap_at _ _ j (j, k) ?_ ?_ (fun i hi => ?_) (m + 1) (by omega)
  · show Option.map _ _ = _
    rw [Array.getD_eq_getD_getElem?, Array.getElem?_eq_getElem hjb] at hj ⊢
    simp only [Option.getD_some, Option.isNone_iff_eq_none] at hj ⊢
    rw [hj]; rfl
  · show Option.map _ _ = _
    rw [Array.getD_eq_getD_getElem?, Array.getElem?_setIfInBounds_self_of_lt hjb]
    rfl
  · show Option.map _ _ = _
    rw [Array.getD_eq_getD_getElem?, Array.getD_eq_getD_getElem?, Array.getElem?_setIfInBounds_ne (Ne.symm hi)]
theorem path_rng (m : Nat) (h : Int) : ∀ k, (path m h k).j + (path m h k).more ≤ m
  | 0 => by
    have := lps_le m h 0
    show (lps m h 0).1 + (SetTable.runEnd m (lps m h 0).1 - (lps m h 0).1) ≤ m
    unfold SetTable.runEnd
    split <;> omega
  | k + 1 => by
    have ih := path_rng m h k
    show (advM m (path m h k)).j + (advM m (path m h k)).more ≤ m
    unfold advM SetTable.advance
    split
    · dsimp only; omega
    · have hl : (SetTable.leap m (path m h k).i (path m h k).perturb).1 ≤ m := by show (_ % (m + 1)) ≤ m; exact Nat.le_of_lt_succ (Nat.mod_lt _ (by omega))
      show (SetTable.leap m (path m h k).i (path m h k).perturb).1 + (SetTable.runEnd m (SetTable.leap m (path m h k).i (path m h k).perturb).1 - (SetTable.leap m (path m h k).i (path m h k).perturb).1) ≤ m
      unfold SetTable.runEnd
      split <;> omega
theorem mem_live {m : Nat} {ow : Array (Option Nat)} {j k : Nat} : (j, k) ∈ liveO m ow ↔ j ≤ m ∧ ow.getD j none = some k := by
  unfold liveO
  rw [List.mem_filterMap]
  constructor
  · rintro ⟨i, hi, e⟩
    obtain ⟨a, h1, h2⟩ := Option.map_eq_some_iff.mp e
    cases h2
    exact ⟨by have := List.mem_range.mp hi; omega, h1⟩
  · rintro ⟨h1, h2⟩
    exact ⟨j, List.mem_range.mpr (by omega), by rw [h2]; rfl⟩
theorem occ_live {m : Nat} {ow : Array (Option Nat)} (hs : ow.size = m + 1) {j : Nat} (hj : j ≤ m) (h : occO ow j) : j ∈ (liveO m ow).map (·.1) := by
  unfold occO at h
  rw [Array.getD_eq_getD_getElem?, Array.getElem?_eq_getElem (by omega)] at h
  cases e : ow[j] with
  | none => rw [e] at h; cases h
  | some k => exact List.mem_map.mpr ⟨(j, k), mem_live.mpr ⟨hj, by rw [Array.getD_eq_getD_getElem?, Array.getElem?_eq_getElem (by omega), e]; rfl⟩, rfl⟩
theorem not_live {m : Nat} {ow : Array (Option Nat)} (hs : ow.size = m + 1) {j : Nat} (hj : j ≤ m) (h : j ∉ (liveO m ow).map (·.1)) : (ow.getD j (some 0)).isNone = true := by
  cases e : (ow.getD j (some 0)).isNone with
  | true => rfl
  | false => exact absurd (occ_live hs hj e) h
structure OwI (m : Nat) (hs : List Int) (ow : Array (Option Nat)) (k : Nat) : Prop where
  sz : ow.size = m + 1
  pm : ((liveO m ow).map (·.2)).Perm (List.range k)
  on : ∀ p ∈ liveO m ow, ∃ h, hs[p.2]? = some h ∧ OnP m (· ∈ (liveO m ow).map (·.1)) h p.1
def layStep (m : Nat) (acc : Option (Array (Option Nat) × Nat)) (h : Int) : Option (Array (Option Nat) × Nat) := do
  let (owner, k) ← acc
  let j ← SetTable.layClean.free m owner (SetTable.turns m) (SetTable.bits h % (m + 1)) (SetTable.bits h)
  pure (owner.setIfInBounds j (some k), k + 1)
theorem lay_step {m : Nat} (hm : m = 7 ∨ m = 31) {hs : List Int} {ow : Array (Option Nat)} {k : Nat} (J : OwI m hs ow k) (hk : k ≤ m) {h : Int} (hh : hs[k]? = some h) :
    ∃ ow', layStep m (some (ow, k)) h = some (ow', k + 1) ∧ OwI m hs ow' (k + 1) := by
  have hl : ((liveO m ow).map (·.1)).length ≤ m := by
    have := J.pm.length_eq
    rw [List.length_map, List.length_range] at this
    rw [List.length_map]; omega
  obtain ⟨j0, hj0, hn0⟩ := pigeon hl
  obtain ⟨n, hn1, hn2⟩ := met_all hm h hj0
  have F := free_spec (m := m) (h := h) (ow := ow) (SetTable.turns m) 0 (fun k hk => by cases hk)
  obtain ⟨j, ej⟩ := F.2 ⟨n, Nat.zero_le _, by unfold SetTable.turns; omega, by rw [hn2]; exact not_live J.sz hj0 hn0⟩
  obtain ⟨f1, f2⟩ := F.1 j ej
  refine ⟨ow.setIfInBounds j (some k), ?_, ?_⟩
  · show ((SetTable.layClean.free m ow (SetTable.turns m) (lps m h 0).1 (lps m h 0).2).bind fun j => some (ow.setIfInBounds j (some k), k + 1)) = _
    rw [ej]; rfl
  · have pl := live_set (k := k) J.sz f1
    have up : ∀ x, x ∈ (liveO m ow).map (·.1) → x ∈ (liveO m (ow.setIfInBounds j (some k))).map (·.1) := fun x hx => ((pl.map (·.1)).mem_iff).mpr (List.mem_cons_of_mem _ hx)
    refine ⟨by rw [Array.size_setIfInBounds]; exact J.sz, ?_, fun p hp => ?_⟩
    · rw [List.range_succ]
      refine (pl.map (·.2)).trans ?_
      rw [List.map_cons]
      exact (J.pm.cons k).trans (List.perm_append_singleton _ _).symm
    · rcases List.mem_cons.mp (pl.mem_iff.mp hp) with rfl | hp
      · obtain ⟨k2, e1, e2⟩ := f2
        exact ⟨h, hh, k2, e1, fun k' hk' => up _ (occ_live J.sz (by have := path_rng m h k'; omega) (e2 k' hk'))⟩
      · obtain ⟨h', e1, e2⟩ := J.on p hp
        exact ⟨h', e1, e2.mono up⟩
theorem lay_all {m : Nat} (hm : m = 7 ∨ m = 31) {hs : List Int} (hl : hs.length ≤ m) : ∀ (r : List Int) (k : Nat) (ow : Array (Option Nat)), hs.drop k = r → OwI m hs ow k → ∃ ow', r.foldl (layStep m) (some (ow, k)) = some (ow', k + r.length) ∧ OwI m hs ow' (k + r.length)
  | [], k, ow, _, J => ⟨ow, rfl, J⟩
  | h :: r, k, ow, e, J => by
    have hh : hs[k]? = some h := by rw [← List.head?_drop, e]; rfl
    have hk : k < hs.length := (List.getElem?_eq_some_iff.mp hh).1
    obtain ⟨ow1, e1, J1⟩ := lay_step hm J (by omega) hh
    obtain ⟨ow2, e2, J2⟩ := lay_all hm hl r (k + 1) ow1 (by rw [← List.tail_drop, e]; rfl) J1
    refine ⟨ow2, ?_, ?_⟩
    · rw [List.foldl_cons, e1, e2, List.length_cons]; congr 2; omega
    · rw [List.length_cons, show k + (r.length + 1) = k + 1 + r.length by omega]; exact J2
theorem own_empty (m : Nat) (hs : List Int) : OwI m hs (Array.replicate (m + 1) none) 0 := by
  have e : liveO m (Array.replicate (m + 1) none) = [] := by
    refine List.eq_nil_iff_forall_not_mem.mpr fun p hp => ?_
    obtain ⟨h1, h2⟩ := mem_live.mp (show (p.1, p.2) ∈ _ from hp)
    rw [Array.getD_eq_getD_getElem?, Array.getElem?_replicate] at h2
    split at h2 <;> cases h2
  refine ⟨by simp, by rw [e]; exact .refl _, by rw [e]; simp⟩
theorem layClean_ok {m : Nat} (hm : m = 7 ∨ m = 31) {hs : Array Int} (hl : hs.size ≤ m) : ∃ ow, SetTable.layClean m hs = some ow ∧ OwI m hs.toList ow hs.size := by
  obtain ⟨ow, e, J⟩ := lay_all hm (hs := hs.toList) (by simpa using hl) hs.toList 0 _ rfl (own_empty m _)
  rw [Nat.zero_add, Array.length_toList] at e J
  refine ⟨ow, ?_, J⟩
  unfold SetTable.layClean
  rw [← Array.foldl_toList]
  show Option.map _ (hs.toList.foldl (layStep m) _) = _
  rw [e]; rfl
theorem fm_self {α : Type} : ∀ l : List α, (List.range l.length).filterMap (l[·]?) = l
  | [] => rfl
  | a :: l => by
    rw [List.length_cons, List.range_succ_eq_map, List.filterMap_cons]
    simp only [List.getElem?_cons_zero, List.filterMap_map]
    congr 1
    exact fm_self l
theorem zip_fm {α : Type} {l : List α} : ∀ {L : List (Nat × Nat)}, (∀ q ∈ L, q.2 < l.length) → ((L.map (·.2)).filterMap (l[·]?)).length = L.length ∧ ∀ p ∈ ((L.map (·.2)).filterMap (l[·]?)).zip (L.map (·.1)), ∃ q ∈ L, l[q.2]? = some p.1 ∧ q.1 = p.2
  | [], _ => ⟨rfl, fun p hp => by simp at hp⟩
  | q :: L, h => by
    have e : l[q.2]? = some (l[q.2]'(h q (by simp))) := List.getElem?_eq_getElem (h q (by simp))
    obtain ⟨h1, h2⟩ := zip_fm (l := l) (L := L) fun q hq => h q (List.mem_cons_of_mem _ hq)
    have e2 : ((q :: L).map (·.2)).filterMap (l[·]?) = l[q.2]'(h q (by simp)) :: (L.map (·.2)).filterMap (l[·]?) := by
      rw [List.map_cons, List.filterMap_cons, e]
    rw [e2]
    refine ⟨by rw [List.length_cons, h1, List.length_cons], fun p hp => ?_⟩
    rw [List.map_cons, List.zip_cons_cons] at hp
    rcases List.mem_cons.mp hp with rfl | hp
    · exact ⟨q, by simp, e, rfl⟩
    · obtain ⟨q', a, b⟩ := h2 p hp
      exact ⟨q', List.mem_cons_of_mem _ a, b⟩
variable {w : World} {t : SetTable}
theorem TI.relaid {es : Array (Int × Value)} (tk : Tk w t) {n : Nat} (hm : SetTable.sizeAbove n - 1 = 7 ∨ SetTable.sizeAbove n - 1 = 31) (hl : es.size ≤ SetTable.sizeAbove n - 1) :
    ∃ t' order, t.relaid (es.map (·.1)) n = some (t', order) ∧ t'.mask = SetTable.sizeAbove n - 1 ∧ (order.filterMap (es[·]?)).toList.Perm es.toList ∧ TI w t' (order.filterMap (es[·]?)).toList := by
  obtain ⟨ow, e, J⟩ := layClean_ok hm (hs := es.map (·.1)) (by simpa using hl)
  generalize hM : SetTable.sizeAbove n - 1 = m at *
  rw [Array.size_map] at J
  have er : t.relaid (es.map (·.1)) n = some ({ mask := m, place := ((liveO m ow).map (·.1)).toArray, dummies := #[], finger := t.finger, led := t.led, moves := t.movedTo m, plain := t.plain }, ((liveO m ow).map (·.2)).toArray) := by
    unfold SetTable.relaid SetTable.laid
    rw [hM, e]; rfl
  have ee : ((((liveO m ow).map (·.2)).toArray).filterMap (es[·]?)).toList = ((liveO m ow).map (·.2)).filterMap (es.toList[·]?) := by
    rw [Array.toList_filterMap]
    simp only [Array.getElem?_toList]
  have hq : ∀ q ∈ liveO m ow, q.2 < es.toList.length := fun q hq => by
    have := J.pm.mem_iff.mp (List.mem_map_of_mem (f := (·.2)) hq)
    simpa using this
  obtain ⟨z1, z2⟩ := zip_fm (l := es.toList) hq
  have hll : (liveO m ow).length = es.size := by
    have := J.pm.length_eq
    rwa [List.length_map, List.length_range] at this
  refine ⟨_, _, er, rfl, ?_, ?_⟩
  · rw [ee]
    refine (J.pm.filterMap _).trans ?_
    have := fm_self es.toList
    rw [Array.length_toList] at this
    rw [this]
  · rw [ee]
    refine ⟨tk.laid er, hm, ?_, ?_, fun p hp => ?_⟩
    · rw [z1]; simp
    · show ((liveO m ow).map (·.1)).toArray.toList.length ≤ m
      rw [List.length_map, hll]; exact hl
    · obtain ⟨q, a, b, c⟩ := z2 p hp
      obtain ⟨h, d, f⟩ := J.on q a
      rw [Array.toList_map, List.getElem?_map, b] at d
      cases d
      rw [← c]
      exact f
end DL
namespace DL
open PySem PySem.Spec PyProof.Rows
section
variable {P : Program} {w : World} {A : Around} {E : Value → Shared → Prop} {s : Shared}
abbrev TK (P : Program) (w : World) (h : Heap) (k : List Int) (b : Addr) : Prop := IsTupleKey (intKind P w) h k b
def El (P : Program) (w : World) (h : Heap) (e : Int × Value) (k : List Int) : Prop := e.1 = tupleKeyHash (intKind P w) k ∧ ∃ b, e.2 = .ref b ∧ TK P w h k b
theorem El.inj {h : Heap} {e : Int × Value} {k k' : List Int} : El P w h e k → El P w h e k' → k = k'
  | ⟨_, b, e1, t1⟩, ⟨_, b', e2, t2⟩ => by rw [e1] at e2; cases e2; exact t1.inj t2
theorem itemsAre_int : ∀ {k : List Int} {vs : List Value}, ItemsAre (intKind P w) k vs → ∀ v ∈ vs, ∃ n t, v = .int n t
  | _, _, .nil, v, hv => by simp at hv
  | _, _, .cons (k := n) (v := u) h1 r, v, hv => by
    rcases List.mem_cons.mp hv with rfl | hv
    · have h1 : Value.isInt n v = true := h1
      cases v with
      | int m t => exact ⟨m, t, rfl⟩
      | _ => simp [Value.isInt] at h1
    · exact itemsAre_int r v hv
theorem wp_classOf {k : List Int} {b : Addr} {Q : Bool → Shared → Prop} (hk : TK P w s.heap k b) (h : Q false s) : wpAny (model P w) A (ofAClassStatement 8 (.ref b)) Q E s := by
  have hT := hk.typeIs
  obtain ⟨o, items, n, ho, hc, hd, hi⟩ := hk
  unfold ofAClassStatement
  refine wpAny_bind (wpAny_typeOf_ref ho ?_)
  rw [hc]
  dsimp only
  rw [if_pos (by decide)]
  refine wpAny_bind (wpAny_pure ?_)
  rw [if_neg (by decide)]
  refine wpAny_bind (wpAny_seqItems ho hd ?_)
  dsimp only
  refine wpAny_bind ?_
  rw [← Array.forIn_toList]
  refine wpAny_forIn_list _ (fun rest r s' => r.1 = none ∧ s' = s ∧ ∀ v ∈ rest, ∃ n t, v = Value.int n t) _ ?_ ?_ _ _ ⟨rfl, rfl, itemsAre_int hi⟩
  · rintro v rest r s' ⟨hr, rfl, hall⟩
    obtain ⟨n, t, rfl⟩ := hall v List.mem_cons_self
    rw [show ofAClassStatement 7 (.int n t) = pure false by unfold ofAClassStatement; rfl]
    refine wpAny_bind (wpAny_pure ?_)
    rw [if_neg (by decide)]
    exact wpAny_pure ⟨rfl, rfl, fun u hu' => hall u (List.mem_cons_of_mem _ hu')⟩
  · rintro ⟨r1, r2⟩ s' ⟨hr, rfl, _⟩
    simp only at hr
    subst hr
    exact wpAny_pure h
theorem wp_byValue {k : List Int} {b : Addr} {Q : Bool → Shared → Prop} (hk : TK P w s.heap k b) (h : Q true s) : wpAny (model P w) A (hashByValue 8 (.ref b)) Q E s := by
  have hT := hk.typeIs
  obtain ⟨o, items, n, ho, hc, hd, hi⟩ := hk
  unfold hashByValue
  refine wpAny_bind (wpAny_specialOf hT F.slot_tuple_hash.lookup ?_)
  dsimp only
  refine wpAny_bind (wpAny_seqItems ho hd ?_)
  refine wpAny_bind ?_
  show wpAny _ _ (forIn items _ _) _ _ s
  rw [← Array.forIn_toList]
  refine wpAny_forIn_list _ (fun rest r s' => r.1 = none ∧ s' = s ∧ ∀ v ∈ rest, ∃ n t, v = Value.int n t) _ ?_ ?_ _ _ ⟨rfl, rfl, itemsAre_int hi⟩
  · rintro v rest r s' ⟨hr, rfl, hall⟩
    obtain ⟨n, t, rfl⟩ := hall v List.mem_cons_self
    rw [show hashByValue 7 (.int n t) = pure true by unfold hashByValue; rfl]
    refine wpAny_bind (wpAny_pure ?_)
    rw [if_neg (by decide)]
    exact wpAny_pure ⟨rfl, rfl, fun u hu' => hall u (List.mem_cons_of_mem _ hu')⟩
  · rintro ⟨r1, r2⟩ s' ⟨hr, rfl, _⟩
    simp only at hr
    subst hr
    exact wpAny_pure h
theorem wp_seen {k : List Int} {b : Addr} {l : List Value} {Q : Bool → Shared → Prop} (hk : TK P w s.heap k b) (hl : ∀ v ∈ l, ∃ c k', v = .ref c ∧ TK P w s.heap k' c) (h : Q false s) : wpAny (model P w) A (searchCouldBeSeen (.ref b) l) Q E s := by
  unfold searchCouldBeSeen
  refine wpAny_bind ?_
  refine wpAny_forIn_list _ (fun rest r s' => r.1 = none ∧ s' = s ∧ ∀ v ∈ rest, ∃ c k', v = .ref c ∧ TK P w s.heap k' c) _ ?_ ?_ _ _ ⟨rfl, rfl, hl⟩
  · rintro v rest r s' ⟨hr, rfl, hall⟩
    have hrest : ∀ v ∈ rest, ∃ c k', v = .ref c ∧ TK P w s'.heap k' c := fun u hu' => hall u (List.mem_cons_of_mem _ hu')
    obtain ⟨c, k', rfl, hc⟩ := hall v List.mem_cons_self
    dsimp only
    split
    · exact wpAny_pure ⟨rfl, rfl, hrest⟩
    · refine wpAny_bind (wpAny_eqIsQuiet_tuple hk ?_)
      rw [if_neg (by decide)]
      refine wpAny_bind (wpAny_eqIsQuiet_tuple hc ?_)
      rw [if_neg (by decide)]
      refine wpAny_bind (wp_classOf hk ?_)
      rw [if_neg (by decide)]
      refine wpAny_bind (wp_classOf hc ?_)
      rw [if_neg (by decide)]
      exact wpAny_pure ⟨rfl, rfl, hrest⟩
  · rintro ⟨r1, r2⟩ s' ⟨hr, rfl, _⟩
    simp only at hr
    subst hr
    exact wpAny_pure h
theorem TI.fits {t : SetTable} {es : Array (Int × Value)} (I : TI w t es.toList) : t.fits es.size = true := by
  have h1 := I.len
  have h2 := I.room
  rw [Array.length_toList] at h1 h2
  rw [Array.length_toList] at h1
  unfold SetTable.fits SetTable.fill
  rw [I.tk.dum]
  simp [h1]
  omega
theorem search_T {a : Addr} {o : Obj} {es : Array (Int × Value)} {ep : Nat} {t : SetTable} {k : List Int} {b : Addr} {Q : SetFound → Shared → Prop} (hu : A.units < cLine)
    (ho : s.heap.get? a = some o) (hd : o.data = .set es ep t) (I : TI w t es.toList) (hes : ∀ e ∈ es.toList, ∃ k, El P w s.heap e k) (hk : TK P w s.heap k b)
    {K : Nat} (hK : (path t.mask (tupleKeyHash (intKind P w) k) K).j ∉ t.place.toList) (hb : ∀ i < K, (path t.mask (tupleKeyHash (intKind P w) k) i).j ∈ t.place.toList) (hK2 : K < 10 * SetTable.turns t.mask)
    (h1 : (∃ e ∈ es.toList, El P w s.heap e k) → Q (.there none) s)
    (h2 : (∀ e ∈ es.toList, ¬ El P w s.heap e k) → Q (.free (path t.mask (tupleKeyHash (intKind P w) k) K).j false) s) :
    ∀ (fuel k0 : Nat) (st : Option SetTable.Probe), st.getD (t.probeStart (tupleKeyHash (intKind P w) k)) = path t.mask (tupleKeyHash (intKind P w) k) k0 → k0 ≤ K → K - k0 < fuel →
      (∀ k' < k0, ∀ i, t.slot (path t.mask (tupleKeyHash (intKind P w) k) k').j = .live i → ∀ e, es.toList[i]? = some e → ¬ El P w s.heap e k) →
      wpAny (model P w) A (setSearchFrom a (.ref b) (tupleKeyHash (intKind P w) k) true fuel st) Q E s := by
  intro fuel
  induction fuel with
  | zero => intro k0 st _ _ h; omega
  | succ f ih =>
    intro k0 st hst hk0 hf hno
    unfold setSearchFrom
    refine wpAny_bind (wpAny_setState_of ho hd I.fits ?_)
    dsimp only
    have hgw : t.gaveWay = false := by
      unfold SetTable.gaveWay
      rcases I.msk with e | e <;> rw [e] <;> rfl
    rw [hgw, hst]
    simp only [Bool.false_eq_true, if_false]
    rcases I.go (fun i => (es[i]?.map (·.1)).getD 0) (tupleKeyHash (intKind P w) k) hK hb (10 * SetTable.turns t.mask) k0 hk0 (by omega) with ⟨g, q⟩ | ⟨k', i, a1, a2, a3, a4, a5, a6, a7⟩
    · have g' : ∀ ha : Nat → Int, ha = (fun i => (es[i]?.map (·.1)).getD 0) → t.probe ha (tupleKeyHash (intKind P w) k) (path t.mask (tupleKeyHash (intKind P w) k) k0) = some (.empty (path t.mask (tupleKeyHash (intKind P w) k) K).j none) := fun ha e => by rw [e]; exact g
      rw [g']
      case a => rfl
      dsimp only
      refine wpAny_pure (h2 fun e he hel => ?_)
      obtain ⟨e1, e2⟩ := e
      obtain rfl : e1 = _ := hel.1
      obtain ⟨i, k', b1, b2, b3⟩ := I.has he hK
      by_cases c : k' < k0
      · exact hno k' c i b3 _ b2 hel
      · refine q k' (by omega) b1 i b3 ?_
        rw [← Array.getElem?_toList, b2]; rfl
    · have g' : ∀ ha : Nat → Int, ha = (fun i => (es[i]?.map (·.1)).getD 0) → t.probe ha (tupleKeyHash (intKind P w) k) (path t.mask (tupleKeyHash (intKind P w) k) k0) = some (.candidate (path t.mask (tupleKeyHash (intKind P w) k) k').j i (path t.mask (tupleKeyHash (intKind P w) k) (k' + 1))) := fun ha e => by rw [e]; exact a6
      rw [g']
      case a => rfl
      dsimp only
      have hi : i < es.toList.length := by rw [← I.len]; exact (List.getElem?_eq_some_iff.mp a4).1
      obtain ⟨e, he⟩ : ∃ e, es.toList[i]? = some e := ⟨_, List.getElem?_eq_getElem hi⟩
      obtain ⟨ky, hel⟩ := hes e (List.mem_of_getElem? he)
      obtain ⟨hh, c, hc, tc⟩ := id hel
      obtain ⟨e1, y⟩ := e
      dsimp only at hh hc
      subst hc
      have he2 : es[i]? = some (e1, .ref c) := by rw [← Array.getElem?_toList]; exact he
      split
      · refine wpAny_bind (wp_seen hk (fun v hv => ?_) ?_)
        · obtain ⟨e, he, rfl⟩ := List.mem_map.mp hv
          rw [Array.toList_filter] at he
          obtain ⟨k3, _, c3, h3, t3⟩ := hes e (List.mem_filter.mp he).1
          exact ⟨c3, k3, h3, t3⟩
        rw [if_neg (by decide), he2]
        dsimp only
        refine wpAny_bind (wpAny_holding (wpAny_eqBool_tuple hu tc hk ?_))
        refine wpAny_bind (wpAny_setState_of ho hd I.fits ?_)
        dsimp only
        by_cases ck : ky = k
        · subst ck
          rw [decide_eq_true rfl]
          exact wpAny_pure (h1 ⟨_, List.mem_of_getElem? he, hel⟩)
        · rw [decide_eq_false ck]
          have sm : t.sameMemory t.moves t.mask = some true := by unfold SetTable.sameMemory; rw [if_pos (beq_self_eq_true _)]
          rw [sm]
          simp only [Bool.and_false, Bool.false_eq_true, if_false, if_true]
          rw [a3]
          dsimp only
          rw [he2]
          dsimp only
          refine wpAny_bind (wpAny_isSame_ref_self ?_)
          refine wpAny_bind (wpAny_pure ?_)
          rw [if_pos rfl]
          dsimp only
          refine ih (k' + 1) _ rfl (by omega) (by omega) fun k2 hk2 i2 hi2 ee hee hel2 => ?_
          by_cases c1 : k2 < k0
          · exact hno k2 c1 i2 hi2 ee hee hel2
          · by_cases c2 : k2 < k'
            · refine a7 k2 (by omega) c2 i2 hi2 ?_
              rw [← Array.getElem?_toList, hee]; exact hel2.1
            · obtain rfl : k2 = k' := by omega
              rw [a3] at hi2
              cases hi2
              rw [he] at hee
              cases hee
              exact ck (hel.inj hel2)
      · rw [he2]
        dsimp only
        refine wpAny_bind (wpAny_holding (wpAny_eqBool_tuple hu tc hk ?_))
        refine wpAny_bind (wpAny_setState_of ho hd I.fits ?_)
        dsimp only
        by_cases ck : ky = k
        · subst ck
          rw [decide_eq_true rfl]
          exact wpAny_pure (h1 ⟨_, List.mem_of_getElem? he, hel⟩)
        · rw [decide_eq_false ck]
          have sm : t.sameMemory t.moves t.mask = some true := by unfold SetTable.sameMemory; rw [if_pos (beq_self_eq_true _)]
          rw [sm]
          simp only [Bool.and_false, Bool.false_eq_true, if_false, if_true]
          rw [a3]
          dsimp only
          rw [he2]
          dsimp only
          refine wpAny_bind (wpAny_isSame_ref_self ?_)
          refine wpAny_bind (wpAny_pure ?_)
          rw [if_pos rfl]
          dsimp only
          refine ih (k' + 1) _ rfl (by omega) (by omega) fun k2 hk2 i2 hi2 ee hee hel2 => ?_
          by_cases c1 : k2 < k0
          · exact hno k2 c1 i2 hi2 ee hee hel2
          · by_cases c2 : k2 < k'
            · refine a7 k2 (by omega) c2 i2 hi2 ?_
              rw [← Array.getElem?_toList, hee]; exact hel2.1
            · obtain rfl : k2 = k' := by omega
              rw [a3] at hi2
              cases hi2
              rw [he] at hee
              cases hee
              exact ck (hel.inj hel2)
theorem El.keeps {a : Addr} {o : Obj} {es : Array (Int × Value)} {ep : Nat} {t : SetTable} {h h' : Heap} {e : Int × Value} {k : List Int} (ho : h.get? a = some o) (hd : o.data = .set es ep t) (hs : Heap.SameBut a h h') : El P w h e k → El P w h' e k
  | ⟨h1, b, h2, o', items, n, ho', hc, hd', hi⟩ => ⟨h1, b, h2, o', items, n, by
      have hne : b ≠ a := by
        rintro rfl
        obtain rfl : o' = o := Option.some.inj (ho'.symm.trans ho)
        rw [hd] at hd'; exact nomatch hd'
      exact (hs.2 b hne).trans ho', hc, hd', hi⟩
theorem TI.pl {t : SetTable} {es : List (Int × Value)} (I : TI w t es) (b : Bool) : TI w { t with plain := b } es := ⟨⟨I.tk.led, I.tk.dum, I.tk.ris⟩, I.msk, I.len, I.room, I.on⟩
def SetT (P : Program) (w : World) (a : Addr) (ks : List (List Int)) (h : Heap) : Prop :=
  ∃ o es ep t, h.get? a = some o ∧ o.ExactSet ∧ o.data = .set es ep t ∧ TI w t es.toList ∧ es.size * 5 < t.mask * 3 ∧ es.size = ks.length ∧ (∀ e ∈ es.toList, ∃ k ∈ ks, El P w h e k) ∧ ∀ k ∈ ks, ∃ e ∈ es.toList, El P w h e k
def addT (ks : List (List Int)) (k : List Int) : List (List Int) := if k ∈ ks then ks else ks ++ [k]
theorem setT_store {a : Addr} {h : Heap} {o : Obj} {es : Array (Int × Value)} {ep : Nat} {t : SetTable} (ho : h.get? a = some o) (hx : o.ExactSet) (hd : o.data = .set es ep t) {e2 : Array (Int × Value)} {t2 : SetTable} :
    (h.update a (Obj.putSet e2 t2)).get? a = some { o with data := .set e2 (ep + 1) t2 } := by
  have z := Heap.get?_update_self (Obj.putSet e2 t2) ho (by rw [putSet_of e2 t2 hd]; rfl)
  rw [putSet_of e2 t2 hd] at z; exact z
theorem setT_tail {a : Addr} {ks : List (List Int)} {o : Obj} {es : Array (Int × Value)} {ep : Nat} {t : SetTable} {Q : Bool → Shared → Prop} (ho : s.heap.get? a = some o) (hx : o.ExactSet) (hd : o.data = .set es ep t)
    {e2 : Array (Int × Value)} {t2 : SetTable} (I : TI w t2 e2.toList) (hl : e2.size = ks.length) (h6 : ks.length ≤ 6) (h7 : t2.mask = 7 → e2.size ≤ 5)
    (hE1 : ∀ e ∈ e2.toList, ∃ k ∈ ks, El P w s.heap e k) (hE2 : ∀ k ∈ ks, ∃ e ∈ e2.toList, El P w s.heap e k) {n : Nat} (hn : n = e2.size)
    (h : ∀ h', Heap.SameBut a s.heap h' → SetT P w a ks h' → Q true { s with heap := h' }) :
    wpAny (model P w) A (do
        storeSet a e2 t2
        if (!false && t2.tooFull) = true then do
            setRelay a (SetTable.grown n)
            pure true
          else pure true) Q E s := by
  have hz : e2.size ≤ sizeLine := by rw [sizeLine_eq]; omega
  refine wpAny_bind (wpAny_storeSet_of ho hd ?_ hz)
  have o1 := setT_store ho hx hd (e2 := e2) (t2 := t2)
  have sb := Heap.SameBut.update s.heap a (Obj.putSet e2 t2)
  have htf : t2.tooFull = decide (e2.size * 5 ≥ t2.mask * 3) := by
    have h1 := I.len
    rw [Array.length_toList, Array.length_toList] at h1
    unfold SetTable.tooFull SetTable.fill
    rw [I.tk.dum, h1]; rfl
  have hE1' : ∀ h', Heap.SameBut a s.heap h' → ∀ e ∈ e2.toList, ∃ k ∈ ks, El P w h' e k := fun h' sb e he => by
    obtain ⟨k, m, q⟩ := hE1 e he
    exact ⟨k, m, q.keeps ho hd sb⟩
  have hE2' : ∀ h', Heap.SameBut a s.heap h' → ∀ k ∈ ks, ∃ e ∈ e2.toList, El P w h' e k := fun h' sb k hk => by
    obtain ⟨e, m, q⟩ := hE2 k hk
    exact ⟨e, m, q.keeps ho hd sb⟩
  by_cases c : e2.size * 5 ≥ t2.mask * 3
  · rw [htf, if_pos (by simpa using c)]
    have m7 : t2.mask = 7 := by
      rcases I.msk with e | e
      · exact e
      · rw [e] at c; omega
    have s5 : e2.size = 5 := by have := h7 m7; rw [m7] at c; omega
    have hg : SetTable.grown n = 20 := by rw [hn, s5]; rfl
    rw [hg]
    obtain ⟨t3, order, er, em, pm, I3⟩ := TI.relaid (w := w) (t := t2) (es := e2) I.tk (n := 20) (.inr (by decide)) (by rw [s5]; decide)
    have z3 : (order.filterMap (e2[·]?)).size = e2.size := by rw [← Array.length_toList, pm.length_eq, Array.length_toList]
    unfold setRelay
    refine wpAny_bind (wpAny_bind (wpAny_setState_of o1 rfl I.fits ?_))
    dsimp only
    rw [if_neg (by rw [sizeLine_eq]; decide), er]
    refine wpAny_bind (wpAny_of_eq (a := (order.filterMap (e2[·]?), t3)) ?_ ?_)
    · show (if ((order.filterMap (e2[·]?)).size != e2.size) = true then _ else pure (order.filterMap (e2[·]?), t3)) = _
      rw [if_neg (by rw [z3]; simp)]
    · dsimp only
      refine wpAny_storeSet_of o1 rfl ?_ (by rw [z3]; exact hz)
      have o3 := setT_store o1 hx rfl (e2 := order.filterMap (e2[·]?)) (t2 := t3)
      have sb3 := sb.trans (Heap.SameBut.update _ a (Obj.putSet (order.filterMap (e2[·]?)) t3))
      refine wpAny_pure (h _ sb3 ⟨_, _, _, _, o3, hx, rfl, I3, ?_, z3.trans hl, ?_, ?_⟩)
      · rw [z3, em, s5]; decide
      · intro e he; exact hE1' _ sb3 e (pm.mem_iff.mp he)
      · intro k hk
        obtain ⟨e, he, q⟩ := hE2' _ sb3 k hk
        exact ⟨e, pm.mem_iff.mpr he, q⟩
  · rw [htf, if_neg (by simpa using c)]
    exact wpAny_pure (h _ sb ⟨_, _, _, _, o1, hx, rfl, I, by omega, hl, hE1' _ sb, hE2' _ sb⟩)
theorem setT_add {a : Addr} {ks : List (List Int)} {k : List Int} {b : Addr} {Q : Bool → Shared → Prop} (hu : A.units < cLine) (hS : SetT P w a ks s.heap) (hr : ks.length ≤ 5) (hk : TK P w s.heap k b)
    (h : ∀ x h', Heap.SameBut a s.heap h' → SetT P w a (addT ks k) h' → Q x { s with heap := h' }) :
    wpAny (model P w) A (setAddHashed a (.ref b) (tupleKeyHash (intKind P w) k)) Q E s := by
  obtain ⟨o, es, ep, t, ho, hx, hd, I, hfull, hlen, hE1, hE2⟩ := id hS
  obtain ⟨K, hK2, hK, hb⟩ := I.first (tupleKeyHash (intKind P w) k)
  unfold setAddHashed setAddHashedIn
  refine wpAny_holding (wpAny_bind (wpAny_setState_of ho hd I.fits ?_))
  dsimp only
  rw [show byScan (.ref b) es = false from rfl]
  simp only [Bool.false_eq_true, if_false]
  unfold setSearch
  refine wpAny_bind (search_T hu ho hd I (fun e he => (hE1 e he).imp fun _ h => h.2) hk hK hb hK2 (fun ⟨e, he, hel⟩ => ?c1) (fun hno => ?c2) 100000 0 none rfl (Nat.zero_le _) (by rcases I.msk with c | c <;> rw [c] at hK2 <;> (unfold SetTable.turns at hK2; omega)) (fun k' hk' => by omega))
  case c1 =>
    dsimp only
    obtain ⟨k2, m2, hel2⟩ := hE1 e he
    obtain rfl := hel.inj hel2
    refine wpAny_pure (h false s.heap (Heap.SameBut.refl a s.heap) ?_)
    unfold addT
    rw [if_pos m2]
    exact hS
  case c2 =>
    dsimp only
    refine wpAny_bind (wpAny_setState_of ho hd I.fits ?_)
    dsimp only
    have hn : k ∉ ks := fun c => by
      obtain ⟨e, he, hel⟩ := hE2 k c
      exact hno e he hel
    have ea : addT ks k = ks ++ [k] := by unfold addT; rw [if_neg hn]
    rw [ea] at h
    have I2 := I.put (v := .ref b) hK hb (by rcases I.msk with e | e <;> rw [e] at hfull ⊢ <;> (rw [Array.length_toList]; omega))
    rw [← SetTable.toList_insertAt] at I2
    have hme : ∀ e, e ∈ (SetTable.insertAt es (t.put (path t.mask (tupleKeyHash (intKind P w) k) K).j).2 (tupleKeyHash (intKind P w) k, Value.ref b)).toList ↔ e = (tupleKeyHash (intKind P w) k, Value.ref b) ∨ e ∈ es.toList := fun e => by
      rw [SetTable.toList_insertAt, List.mem_append, List.mem_cons]
      conv => rhs; rw [← List.take_append_drop (t.put (path t.mask (tupleKeyHash (intKind P w) k) K).j).2 es.toList, List.mem_append]
      constructor
      · rintro (h | h | h)
        · exact .inr (.inl h)
        · exact .inl h
        · exact .inr (.inr h)
      · rintro (h | h | h)
        · exact .inr (.inl h)
        · exact .inl h
        · exact .inr (.inr h)
    have hsz : (SetTable.insertAt es (t.put (path t.mask (tupleKeyHash (intKind P w) k) K).j).2 (tupleKeyHash (intKind P w) k, Value.ref b)).size = es.size + 1 := by
      rw [← Array.length_toList, SetTable.toList_insertAt, List.length_append, List.length_cons, List.length_take, List.length_drop, Array.length_toList]; omega
    have new : El P w s.heap (tupleKeyHash (intKind P w) k, Value.ref b) k := ⟨rfl, b, rfl, hk⟩
    have fin := setT_tail (P := P) (w := w) (A := A) (E := E) (Q := Q) (ks := ks ++ [k]) ho hx hd I2 (n := es.size + 1) (by rw [hsz, List.length_append, hlen]; rfl) (by rw [List.length_append]; simpa using hr)
      (fun e7 => by rw [hsz]; have e7 : t.mask = 7 := e7; rw [e7] at hfull; omega)
      (fun e he => by
        rcases (hme e).mp he with rfl | he
        · exact ⟨k, by simp, new⟩
        · obtain ⟨k', m, q⟩ := hE1 e he
          exact ⟨k', by simp [m], q⟩)
      (fun k' hk' => by
        rcases List.mem_append.mp hk' with hk' | hk'
        · obtain ⟨e, m, q⟩ := hE2 k' hk'
          exact ⟨e, (hme e).mpr (.inr m), q⟩
        · simp only [List.mem_cons, List.not_mem_nil, or_false] at hk'
          subst hk'
          exact ⟨_, (hme _).mpr (.inl rfl), new⟩) hsz.symm (fun h' sb S => h true h' sb S)
    split
    · refine wpAny_bind (wp_byValue hk ?_)
      exact fin
    · refine wpAny_bind (wpAny_pure ?_)
      exact fin
end
end DL
namespace DL
open PySem PySem.Spec PyProof.Rows
theorem TK.at {P : Program} {w : World} {h h' : Heap} {k : List Int} {b : Addr} (x : TK P w h k b) (kt : ∀ b o, h.get? b = some o → o.cls = .type "tuple" → h'.get? b = some o) : TK P w h' k b :=
  let ⟨o, items, n, ho, hc, r⟩ := x; ⟨o, items, n, kt _ _ ho hc, hc, r⟩
theorem SetT.at {P : Program} {w : World} {a : Addr} {ks : List (List Int)} {h h' : Heap} (x : SetT P w a ks h) (ka : ∀ o, h.get? a = some o → h'.get? a = some o) (kt : ∀ b o, h.get? b = some o → o.cls = .type "tuple" → h'.get? b = some o) : SetT P w a ks h' := by
  obtain ⟨o, es, ep, t, ho, hx, hd, I, h1, h2, h3, h4⟩ := x
  have ke : ∀ e k, El P w h e k → El P w h' e k := fun e kk ⟨a1, b, a2, q⟩ => ⟨a1, b, a2, TK.at q kt⟩
  refine ⟨o, es, ep, t, ka _ ho, hx, hd, I, h1, h2, fun e he => ?_, fun kk hk => ?_⟩
  · obtain ⟨kk, m, q⟩ := h3 e he; exact ⟨kk, m, ke _ _ q⟩
  · obtain ⟨e, m, q⟩ := h4 kk hk; exact ⟨e, m, ke _ _ q⟩
theorem SetT.ne {P : Program} {w : World} {a : Addr} {ks : List (List Int)} {h : Heap} (x : SetT P w a ks h) {b : Addr} {o : Obj} (hb : h.get? b = some o) (hc : o.cls = .type "tuple") : b ≠ a := by
  obtain ⟨o', _, _, _, ho, hx, _⟩ := x
  rintro rfl
  obtain rfl : o = o' := Option.some.inj (hb.symm.trans ho)
  rw [hx.1] at hc
  exact absurd hc (by decide)
def ktTo (val : Nat → List Int) (i : Nat) : List (List Int) := ((List.range i).map val).foldl addT []
theorem ktTo_succ (val : Nat → List Int) (i : Nat) : ktTo val (i + 1) = addT (ktTo val i) (val i) := by
  unfold ktTo; rw [List.range_succ, List.map_append, List.foldl_append]; rfl
theorem addT_len (ks : List (List Int)) (k : List Int) : (addT ks k).length ≤ ks.length + 1 := by unfold addT; split <;> simp
theorem ktTo_len (val : Nat → List Int) : ∀ i, (ktTo val i).length ≤ i
  | 0 => Nat.le_refl _
  | i + 1 => by rw [ktTo_succ]; have := addT_len (ktTo val i) (val i); have := ktTo_len val i; omega
theorem ktTo_all (ns : List (List Int)) : ktTo (fun i => ns.getD i []) ns.length = ns.foldl addT [] := by
  have e : (List.range ns.length).map (fun i => ns.getD i []) = ns := by
    refine List.ext_getElem (by simp) fun i h1 h2 => ?_
    simp [h2]
  unfold ktTo; rw [e]
section
variable {P : Program} {w : World} {A : Around} {R : Result → Shared → Prop} {I : Addr} {fp wr : List Addr} {G : Array GenState → Array GenState → Prop} {n : Nat} {Pv : Nat → Value → Prop} {St : Nat → Shared → Prop}
theorem setT_loop (hu : A.in1.units < cLine) (W : WalksS P w A.in1 I fp wr G n Pv St) (S : Addr) (hSf : S ∉ fp) (val : Nat → List Int) (h0 : Heap)
    (hnt : ∀ i s, St i s → ∀ b ∈ wr, ∀ o, s.heap.get? b = some o → o.cls ≠ .type "tuple")
    (hval : ∀ i v, Pv i v → ∃ b, v = .ref b ∧ TK P w h0 (val i) b) (hb : n ≤ 6) :
    ∀ (k i : Nat) (s : Shared), n - i = k → i ≤ n → St i s → (∀ b o, h0.get? b = some o → o.cls = .type "tuple" → s.heap.get? b = some o) → SetT P w S (ktTo val i) s.heap →
      (∀ s', Moved (S :: wr) G s s' → SetT P w S (ktTo val n) s'.heap → R (.ok (.ret .none)) s') →
      codeAny (model P w) A (.builtin "set.update.loop" ⟨[.ref S, .ref I], []⟩) R s := by
  have nw : S ∉ wr := fun h => hSf (W.sub _ h)
  have sub : ∀ b ∈ wr, b ∈ S :: wr := fun b hb => List.mem_cons_of_mem _ hb
  have stay : ∀ i s s', St i s → Moved wr G s s' → ∀ b o, s.heap.get? b = some o → o.cls = .type "tuple" → s'.heap.get? b = some o := fun i s s' st hm b o e hc => hm.heap b o (fun hw => hnt i s st b hw o e hc) e
  intro k
  induction k with
  | zero =>
    intro i s hk hi st hag hS hR
    have e : i = n := by omega
    subst e
    refine codeAny_builtin PyProof.Rows.F.entry_set_update_loop ?_
    rw [Around.under_plainId PyProof.Rows.F.plain_set_update_loop _]
    show wpAny _ A.in1 (pyNext (.ref I) >>= _) _ _ s
    refine wpAny_bind (W.done s _ _ st fun s' hm => ?_)
    show wpAny _ A.in1 (ret Value.none) _ _ s'
    exact wpAny_pure (hR s' (hm.mono sub) (hS.at (fun o e => hm.heap S o nw e) (stay i s s' st hm)))
  | succ k ih =>
    intro i s hk hi st hag hS hR
    have lt : i < n := by omega
    refine codeAny_builtin PyProof.Rows.F.entry_set_update_loop ?_
    rw [Around.under_plainId PyProof.Rows.F.plain_set_update_loop _]
    show wpAny _ A.in1 (pyNext (.ref I) >>= _) _ _ s
    refine wpAny_bind (W.item i s _ _ lt st fun v s' hP st' hm => ?_)
    obtain ⟨b, rfl, hk0⟩ := hval i v hP
    have hag1 : ∀ b o, h0.get? b = some o → o.cls = .type "tuple" → s'.heap.get? b = some o := fun b o e hc => stay i s s' st hm b o (hag b o e hc) hc
    have hS1 : SetT P w S (ktTo val i) s'.heap := hS.at (fun o e => hm.heap S o nw e) (stay i s s' st hm)
    have hk1 : TK P w s'.heap (val i) b := TK.at hk0 hag1
    show wpAny _ A.in1 (holding [Value.ref b] (setAdd S (.ref b)) >>= _) _ _ s'
    refine wpAny_bind (wpAny_holding ?_)
    unfold setAdd
    refine wpAny_holding ?_
    refine wpAny_bind (wpAny_pyHash_tuple hu hk1 ?_)
    have room : (ktTo val i).length ≤ 5 := by have := ktTo_len val i; omega
    refine setT_add (s := { s' with toks := s'.toks + ((val i).length + 1) }) hu hS1 room hk1 fun x h' sb S2 => ?_
    rw [← ktTo_succ] at S2
    have hag2 : ∀ b o, h0.get? b = some o → o.cls = .type "tuple" → h'.get? b = some o := fun b o e hc => (sb.2 b (hS1.ne (hag1 b o e hc) hc)).trans (hag1 b o e hc)
    refine wpAny_pure ⟨plainId_quiet PyProof.Rows.F.plain_set_update_loop _, ih (i + 1) _ (by omega) lt (W.frame _ s' _ _ st' (by simp) fun c hc o e => ?_) hag2 S2 fun s'' hm2 S3 => ?_⟩
    · rw [sb.2 c (fun h : c = S => hSf (by rw [← h]; exact hc))]; exact e
    · refine hR s'' (Moved.trans W.gtrans ((hm.mono sub).then_heap (by simp) fun c o hc e => ?_) hm2) S3
      rw [sb.2 c (fun h : c = S => hc (by rw [h]; exact List.mem_cons_self))]; exact e
end
theorem setT_new {P : Program} {w : World} {h : Heap} {a : Addr} (e : h.get? a = some (newSetO w)) : SetT P w a [] h :=
  ⟨_, #[], 0, _, e, ⟨rfl, rfl, rfl⟩, rfl, ⟨Tk.fresh, .inl rfl, rfl, Nat.zero_le _, fun p hp => by simp at hp⟩, by show 0 * 5 < 7 * 3; decide, rfl, fun e he => by simp at he, fun k hk => by simp at hk⟩
section
variable {P : Program} {w : World} {A : Around} {E : Value → Shared → Prop} {s : Shared}
set_option maxHeartbeats 3200000 in
theorem call_setT {l : Addr} {items : Array Value} {ns : List (List Int)} {Q : Value → Shared → Prop}
    (hu : A.units + 3 < cLine) (hh : A.handled = none) (hl : s.heap.IsList l items) (hns : items.size = ns.length) (hi : ∀ i v, items[i]? = some v → ∃ b, v = .ref b ∧ TK P w s.heap (ns.getD i []) b) (hb : items.size ≤ 6)
    (h : ∀ (h' : Heap) (tk : Nat), SetT P w s.heap.objs.size (ns.foldl addT []) h' → (∀ b o, b < s.heap.objs.size → s.heap.get? b = some o → h'.get? b = some o) → Q (.ref s.heap.objs.size) { s with heap := h', toks := tk }) :
    wpAny (model P w) A (call (.type "set") [.ref l]) Q E s := by
  obtain ⟨c, tl, hmro⟩ := F.called_set.mro
  have hmade := F.called_set.made
  have hsub := F.called_set.sub
  refine wpAny_call (codeAny_of_tree ?_)
  show wpAny _ _ (callAny (.type "set") _) _ _ _
  refine wpAny_pure ⟨Code.quiet_builtin _ (by decide +kernel), codeAny_builtin F.entry_type_call ?_⟩
  rw [Around.under_plain (weight_type_call_type "set" [.ref l] []) rfl]
  have h1 := F.called_set.notType
  have h2 := F.called_set.canCreate
  have hct := PySem.F.typeCall_set_1 (.ref l)
  repeat (any_goals (first | assumption | wp_step))
  refine codeAny_mono (code_newSetO (.ref l) (E := E) (Q := fun obj s1 => obj = .ref s.heap.objs.size ∧ s1 = { s with heap := s.heap.push (newSetO w) }) ⟨rfl, rfl⟩) fun r s1 hr => ?_
  cases r with
  | error e => exact hr
  | ok fl =>
    cases fl with
    | ret obj =>
      obtain ⟨rfl, rfl⟩ := hr
      have hS : (s.heap.push (newSetO w)).get? s.heap.objs.size = some (newSetO w) := Heap.get?_push_size _ rfl
      have hT : Shared.TypeIs { s with heap := s.heap.push (newSetO w) } (.ref s.heap.objs.size) "set" := ⟨_, hS, rfl⟩
      have hli := F.called_set.init.lookup
      have hbi := F.called_set.init.bind (.ref s.heap.objs.size)
      repeat (any_goals (first | assumption | wp_step))
      refine codeAny_mono (codeAny_call_builtin (R := wants (fun r s2 => r = .none ∧ ∃ h' tk, s2 = { s with heap := h', toks := tk } ∧ SetT P w s.heap.objs.size (ns.foldl addT []) h' ∧
          (∀ b o, b < s.heap.objs.size → s.heap.get? b = some o → h'.get? b = some o)) E) F.called_set.init.plain F.entry_set_init (check_set_init_1 hT ?_)) fun r2 s2 hr2 => ?_
      · obtain ⟨ol, hol, hcl, nl, hdl⟩ := hl
        obtain ⟨ocls, odict, odata, oslots⟩ := ol
        simp only at hcl hdl
        subst hcl; subst hdl
        have hol' : (s.heap.push (newSetO w)).get? l = some { cls := .type "list", dict := odict, data := .seq items nl, slots := oslots } := Heap.get?_push_of_some _ hol
        have hsls := PySem.F.sub_list_set
        have hslf := PySem.F.sub_list_frozenset
        have hne : (Value.type "list" == Value.type "dict") = false := by decide
        have hl1 : (s.heap.push (newSetO w)).IsList l items := ⟨_, hol', rfl, nl, rfl⟩
        unfold Builtin.«set.__init__» noKeywords Builtin.Frozenset.updateFrom
        generalize hPI : pyIter = PI
        wp_walk
        subst hPI
        refine wpAny_pyIter_list hl1 ?_
        refine wpAny_bind (wpAny_runValue ?_)
        have hlS : l < s.heap.objs.size := Heap.lt_size hol
        have hh3 : A.in1.in1.in1.handled = none := by simp [hh]
        have hneI : l ≠ (s.heap.push (newSetO w)).objs.size := by
          rw [Heap.size_push]; exact Nat.ne_of_lt (Nat.lt_succ_of_lt hlS)
        have hSf : s.heap.objs.size ∉ [(s.heap.push (newSetO w)).objs.size, l] := by
          rw [Heap.size_push]; simp only [List.mem_cons, List.mem_singleton, List.not_mem_nil, or_false, not_or]
          exact ⟨Nat.ne_of_lt (Nat.lt_succ_self _), Nat.ne_of_gt hlS⟩
        refine setT_loop (R := _) ?hU ((Walks.list hh3 _ l hneI items).toS) s.heap.objs.size hSf (fun i => ns.getD i []) s.heap ?hN hi hb (items.size - 0) 0 _ (by omega) (Nat.zero_le _)
          ⟨⟨_, Heap.get?_push_size _ rfl, rfl, rfl⟩, (hl1.push _)⟩ (fun b o e _ => Heap.get?_push_of_some _ (Heap.get?_push_of_some _ e)) (setT_new (Heap.get?_push_of_some _ hS)) ?hR
        case hU => simp only [Around.in1]; omega
        case hN =>
          rintro i0 s0 ⟨⟨o1, g1, c1, d1⟩, _⟩ b0 hw o0 e0 hc0
          simp only [List.mem_cons, List.not_mem_nil, or_false] at hw
          subst hw
          obtain rfl : o0 = o1 := Option.some.inj (e0.symm.trans g1)
          rw [c1] at hc0
          exact absurd hc0 (by decide)
        case hR =>
          intro s' hm hS'
          rw [hns, ktTo_all] at hS'
          obtain ⟨h', g', d', tk', os'⟩ := s'
          have eg : g' = s.gens := hm.gens
          have ed : d' = s.drawn := hm.drawn
          have eo : os' = s.os := hm.os
          subst eg; subst ed; subst eo
          show wpAny _ _ _ _ _ _
          refine wpAny_pure ?_
          show wpAny _ _ (ret Value.none) _ _ _
          refine wpAny_pure ⟨rfl, h', tk', rfl, hS', fun b o hb e => ?_⟩
          have n1 : b ≠ s.heap.objs.size := Nat.ne_of_lt hb
          have n2 : b ≠ (s.heap.push (newSetO w)).objs.size := by
            rw [Heap.size_push]; exact Nat.ne_of_lt (Nat.lt_succ_of_lt hb)
          exact hm.heap b o (by simp only [List.mem_cons, List.mem_singleton, List.not_mem_nil, or_false, not_or]; exact ⟨n1, n2⟩) (Heap.get?_push_of_some _ (Heap.get?_push_of_some _ e))
      · cases r2 with
        | error e => exact hr2
        | ok fl2 =>
          cases fl2 with
          | ret r =>
            obtain ⟨rfl, h', tk, rfl, hS', hk'⟩ := hr2
            repeat (any_goals (first | assumption | wp_step))
            exact h _ _ hS' hk'
          | _ => exact hr2.elim
    | _ => exact hr.elim
end
end DL
namespace DL
open PySem PySem.Spec PyProof.Rows L2
def SetN (a : Addr) (n : Nat) (h : Heap) : Prop := ∃ o es ep t, h.get? a = some o ∧ o.ExactSet ∧ o.data = .set es ep t ∧ t.fits es.size = true ∧ es.size = n
theorem setn_ok {P : Program} {w : World} {H : Hp} {h : Heap} {a : Addr} {n : Nat} (e : SetN a n h) : ObjOk P w H h a (.ext (SetN a n)) := by
  refine ⟨e, ?_, fun h1 h2 z k => ?_⟩
  · obtain ⟨o, _, _, _, ho, _⟩ := e
    exact ⟨o, ho⟩
  · obtain ⟨o, es, ep, t, ho, r⟩ := z
    exact ⟨o, es, ep, t, k o ho, r⟩
theorem SetI.n {P : Program} {w : World} {a : Addr} {ks : List Int} {h : Heap} (x : SetI P w a ks h) : SetN a ks.length h := by
  obtain ⟨o, es, ep, t, ho, hx, hd, hel, hb, hf, ht, l, hp, hi⟩ := x
  refine ⟨o, es, ep, t, ho, hx, hd, hf, ?_⟩
  have := hi.length
  rw [List.length_map, Array.length_toList] at this
  rw [this]; exact hp.length_eq
theorem SetT.n {P : Program} {w : World} {a : Addr} {ks : List (List Int)} {h : Heap} (x : SetT P w a ks h) : SetN a ks.length h := by
  obtain ⟨o, es, ep, t, ho, hx, hd, I, h1, h2, h3, h4⟩ := x
  exact ⟨o, es, ep, t, ho, hx, hd, I.fits, h2⟩
section
variable {X : Cx} {pos : Pos} {e : Expr} {t : TAd}
def rSetNI (K : PySem.W.Frag) : List V → Hp → VK → Prop := fun vs H Q => ∃ (a : Addr) (ns : List Int), vs = [V.ref a] ∧ SqL K H a (ns.map V.int) ∧ ns.length < 64 ∧
  ∀ p : Addr, H p = none → Q (.ref p) (upd H p (.ext (SetN p (ns.foldl addK []).length)))
theorem cr_setNI (hc : X.calm = true) : CallR X (.type "set") (rSetNI X.K) := by
  intro pins s σ H vs us Q I r h
  obtain ⟨a, ns, rfl, hs, h64, q⟩ := h
  obtain ⟨its, rv, hl, _⟩ := I.list hs
  rw [Vals.ref1 r]
  have hi := rv.ints
  refine call_setI (P := X.prog) (w := X.w) (I.ok.hd hc) hl.isList (by simpa using hi) (by have := hi.length; simp only [List.size_toArray, scanBound]; omega) fun h' tk S k => ?_
  exact ⟨.ref _, upd H s.heap.objs.size (.ext (SetN s.heap.objs.size (ns.foldl addK []).length)), I.laid (fun b u e => k b u (Heap.lt_size e) e) (Nat.le_refl _) (setn_ok S.n), rfl, q _ (I.hok.fresh (Nat.le_refl _))⟩
def rSetNT (K : PySem.W.Frag) : List V → Hp → VK → Prop := fun vs H Q => ∃ (a : Addr) (cs : List (Addr × Int × Int)), vs = [V.ref a] ∧ SqL K H a (cs.map fun c => V.ref c.1) ∧ (∀ c ∈ cs, SqT K H c.1 [V.int c.2.1, V.int c.2.2]) ∧ cs.length ≤ 6 ∧
  ∀ p : Addr, H p = none → Q (.ref p) (upd H p (.ext (SetN p ((cs.map fun c => [c.2.1, c.2.2]).foldl addT []).length)))
theorem cr_setNT (hc : X.calm = true) (hu : X.A.units + 3 < cLine) : CallR X (.type "set") (rSetNT X.K) := by
  intro pins s σ H vs us Q I r h
  obtain ⟨a, cs, rfl, hs, ht, h6, q⟩ := h
  obtain ⟨its, rv, hl, _⟩ := I.list hs
  rw [Vals.ref1 r]
  have hlen : its.length = cs.length := by rw [← rv.length, List.length_map]
  refine call_setT (P := X.prog) (w := X.w) (ns := cs.map fun c => [c.2.1, c.2.2]) hu (I.ok.hd hc) hl.isList (by simpa using hlen) (fun i v hv => ?_) (by simpa [hlen] using h6) fun h' tk S k => ?_
  · have hv : its[i]? = some v := by simpa using hv
    have hi : i < cs.length := by rw [← hlen]; exact (List.getElem?_eq_some_iff.mp hv).1
    obtain ⟨u, e1, e2⟩ := rv.get (i := i) (x := V.ref (cs[i]).1) (by rw [List.getElem?_map, List.getElem?_eq_getElem hi]; rfl)
    rw [hv] at e1
    cases e1
    have e2 : v = .ref (cs[i]).1 := e2
    subst e2
    obtain ⟨its', rv', hT, _⟩ := I.tuple (ht cs[i] (List.getElem_mem hi))
    obtain ⟨t1, t2, rfl⟩ := two_ints rv'
    refine ⟨_, rfl, ?_⟩
    have eg : (cs.map fun c => [c.2.1, c.2.2]).getD i [] = [(cs[i]).2.1, (cs[i]).2.2] := by simp [hi]
    rw [eg]
    obtain ⟨o, ho, hcl, n, hd⟩ := hT
    exact ⟨o, _, n, ho, hcl, hd, .cons (intKind_is _ _ _ _) (.cons (intKind_is _ _ _ _) .nil)⟩
  · exact ⟨.ref _, upd H s.heap.objs.size (.ext (SetN s.heap.objs.size ((cs.map fun c => [c.2.1, c.2.2]).foldl addT []).length)), I.laid (fun b u e => k b u (Heap.lt_size e) e) (Nat.le_refl _) (setn_ok S.n), rfl, q _ (I.hok.fresh (Nat.le_refl _))⟩
def rLenN : List V → Hp → VK → Prop := fun vs H Q => ∃ (a : Addr) (n : Nat), vs = [V.ref a] ∧ H a = some (.ext (SetN a n)) ∧ n < 64 ∧ Q (.int n) H
theorem cr_lenN : CallR X (.builtin "len") rLenN := by
  intro pins s σ H vs us Q I r h
  obtain ⟨a, n, rfl, hs, h64, q⟩ := h
  rw [Vals.ref1 r]
  obtain ⟨o, es, ep, t, ho, hx, hd, hf, rfl⟩ := (I.hok a _ hs).1
  refine call_len_set ho hx hd hf (by omega) ?_
  exact ⟨.int es.size, H, I.kept fun b u e => e, ⟨_, rfl⟩, q⟩
def gLenSetI : RAD
  | [.d (.list xs)], m, Q => ∃ ns : List Int, xs = ns.map .int ∧ ns.length < 64 ∧ Q (.d (.int ((ns.foldl addK []).length : Nat))) m
  | _, _, _ => False
def gLenSetT : RAD
  | [.d (.list xs)], m, Q => ∃ ps : List (Int × Int), xs = ps.map (fun p => .tuple [.int p.1, .int p.2]) ∧ ps.length ≤ 6 ∧ Q (.d (.int (((ps.map fun p => [p.1, p.2]).foldl addT []).length : Nat))) m
  | _, _, _ => False
theorem mo_lenSetI : MoA gLenSetI := by
  intro x m Q Q' h q
  unfold gLenSetI at q ⊢
  split at q
  · obtain ⟨ns, e, l, q⟩ := q; exact ⟨ns, e, l, h _ _ q⟩
  · exact q.elim
theorem mo_lenSetT : MoA gLenSetT := by
  intro x m Q Q' h q
  unfold gLenSetT at q ⊢
  split at q
  · obtain ⟨ns, e, l, q⟩ := q; exact ⟨ns, e, l, h _ _ q⟩
  · exact q.elim
theorem foldT_len : ∀ (ns ks : List (List Int)), (ns.foldl addT ks).length ≤ ks.length + ns.length
  | [], ks => Nat.le_refl _
  | n :: ns, ks => by
    rw [List.foldl_cons, List.length_cons]
    have := foldT_len ns (addT ks n)
    have := addT_len ks n
    omega
theorem ok_ext {K : PySem.W.Frag} {H I : Hp} {m : M} {p : Addr} {o : HO} (o1 : Ok K H I m) (hp : H p = none) : Ok K (upd H p o) I m := by
  have hI := o1.free hp
  refine ⟨fun a u e => ?_, o1.dj, fun a u e => ?_⟩
  · rw [upd_ne (ne_of_none e hI)]; exact o1.im a u e
  · have hm : m p = none := o1.freeM hp
    have ne : a ≠ p := fun c => by rw [c, hm] at e; cases e
    rw [upd_ne ne]; exact o1.mu a u e
theorem de_lenSetI {e : Expr} {t : TAd} {p1 p2 pos pos2 : Pos} (hc : X.calm = true) (hg : Gl X "len") (hm : X.mg "len" = none) (hg2 : Gl X "set") (hm2 : X.mg "set" = none) (ha : DA X [e] t)
    (he : starEach [e] X.env = [(false, eval e X.env)] := by rfl) (he2 : starEach [Expr.Call (.Name "set" p2) [e] [] pos2] X.env = [(false, eval (.Call (.Name "set" p2) [e] [] pos2) X.env)] := by rfl) :
    DE X (.Call (.Name "len" p1) [.Call (.Name "set" p2) [e] [] pos2] [] pos) (dCB gLenSetI t) := by
  refine de_of (pe_callB cr_lenN hg hm (by decide +kernel) (pa_cons (pe_callTy (cr_setNI hc) hg2 hm2 (by decide +kernel) ha.pa (he := he)) pa_nil) (he := he2)) ?_ ?_
  · exact fun δ m Q Q' hq q => ha.mono δ m _ _ (fun ds m1 z => mo_lenSetI ds m1 Q Q' hq z) q
  · intro σ H I δ m Q ok rl q
    refine ⟨I, δ, m, ok, rl, ha.mono δ m _ _ (fun ds m1 q1 vs H1 I1 s1 o1 i1 => ?_) q⟩
    unfold gLenSetI at q1
    split at q1
    · obtain ⟨ns, rfl, l64, q1⟩ := q1
      obtain ⟨v, rfl, hv⟩ := isAll1 i1
      cases (show Dp X.K I1 v (.list _) from hv) with
      | lst sq al =>
        have ev := ints_dpv al
        subst ev
        refine ⟨_, ns, rfl, Same.seq o1.im sq, l64, fun p hp => ?_⟩
        exact ⟨_, _, rfl, upd_same, Nat.lt_of_le_of_lt (foldK_len ns []) (by simpa using l64), I1, .d (.int _), m1, s1, ok_ext o1 hp, Dp.int _, q1⟩
    · exact q1.elim
theorem de_lenSetT {e : Expr} {t : TAd} {p1 p2 pos pos2 : Pos} (hc : X.calm = true) (hu : X.A.units + 3 < cLine) (hg : Gl X "len") (hm : X.mg "len" = none) (hg2 : Gl X "set") (hm2 : X.mg "set" = none) (ha : DA X [e] t)
    (he : starEach [e] X.env = [(false, eval e X.env)] := by rfl) (he2 : starEach [Expr.Call (.Name "set" p2) [e] [] pos2] X.env = [(false, eval (.Call (.Name "set" p2) [e] [] pos2) X.env)] := by rfl) :
    DE X (.Call (.Name "len" p1) [.Call (.Name "set" p2) [e] [] pos2] [] pos) (dCB gLenSetT t) := by
  refine de_of (pe_callB cr_lenN hg hm (by decide +kernel) (pa_cons (pe_callTy (cr_setNT hc hu) hg2 hm2 (by decide +kernel) ha.pa (he := he)) pa_nil) (he := he2)) ?_ ?_
  · exact fun δ m Q Q' hq q => ha.mono δ m _ _ (fun ds m1 z => mo_lenSetT ds m1 Q Q' hq z) q
  · intro σ H I δ m Q ok rl q
    refine ⟨I, δ, m, ok, rl, ha.mono δ m _ _ (fun ds m1 q1 vs H1 I1 s1 o1 i1 => ?_) q⟩
    unfold gLenSetT at q1
    split at q1
    · obtain ⟨ps, rfl, l6, q1⟩ := q1
      obtain ⟨v, rfl, hv⟩ := isAll1 i1
      cases (show Dp X.K I1 v (.list _) from hv) with
      | lst sq al =>
        obtain ⟨cs, rfl, e2, rfl⟩ := prs_of al
        have ee : (cs.map (·.2)).map (fun p : Int × Int => [p.1, p.2]) = cs.map fun c => [c.2.1, c.2.2] := by rw [List.map_map]; rfl
        rw [ee] at q1
        have l6' : cs.length ≤ 6 := by simpa using l6
        refine ⟨_, cs, rfl, Same.seq o1.im sq, fun c hc => SqT.same o1.im (e2 c hc), l6', fun p hp => ?_⟩
        refine ⟨_, _, rfl, upd_same, ?_, I1, .d (.int _), m1, s1, ok_ext o1 hp, Dp.int _, q1⟩
        have := foldT_len (cs.map fun c => [c.2.1, c.2.2]) []
        rw [List.length_map] at this
        simp only [List.length_nil] at this
        omega
    · exact q1.elim
end
end DL
namespace K04
open PySem L2 DL Sp K
def F__law_left : FD := fun ds m Q => ∃ x y, ds = [pr x y] ∧ Q (pr (0 - y) x) m
theorem mo__law_left : MoA F__law_left := fun _ _ _ _ h ⟨x, y, e, z⟩ => ⟨x, y, e, h _ _ z⟩
def F__law_otherwise_right : FD := fun ds m Q => ∃ a o c s q r n, ds = [.r a, spi s q r, I n] ∧ m a = some o ∧ DeckIs o c ∧ c < 2 ^ 36 ∧ q < 4 ∧ (-(10 ^ 18) ≤ s ∧ s ≤ 10 ^ 18) ∧ (s ≤ n ∧ n - s < 2 ^ 100) ∧ ∀ o', DeckIs o' (c + 1) → Q (.d (.bool true)) (setM m a o')
theorem mo__law_otherwise_right : MoA F__law_otherwise_right := fun _ _ _ _ h ⟨a, o, c, s, q, r, n, e, h1, h2, h3, h4, h5, h6, z⟩ => ⟨a, o, c, s, q, r, n, e, h1, h2, h3, h4, h5, h6, fun o' d => h _ _ (z o' d)⟩
theorem po_nx (x y : Int) : ∃ x' y', po x' y' = po x y + 1 ∧ absI (x' - x) + absI (y' - y) = 1 := by
  rcases (beside x y).1 with e | e | e | e <;> exact ⟨_, _, e, by unfold absI; (repeat' split) <;> omega⟩
theorem at_nx {q : Nat} (hq : q < 4) {r : Bool} {x y x' y' : Int} (h : at' q r x' y' = at' q r x y + 1) : absI (x' - x) + absI (y' - y) = 1 := by
  obtain ⟨u, v, e1, e2⟩ := po_nx (tpx q r x y) (tpy q r x y)
  unfold at' at h
  obtain ⟨rfl, rfl⟩ := po_inj (e1.trans h.symm)
  rcases (show q = 0 ∨ q = 1 ∨ q = 2 ∨ q = 3 by omega) with rfl | rfl | rfl | rfl <;> cases r <;> simp [tpx, tpy, rotx, roty, mir, absI] at e2 ⊢ <;> (repeat' split at e2) <;> (repeat' split) <;> omega
theorem at_rot4 {q : Nat} (hq : q < 4) (r : Bool) (x y : Int) : at' ((q + 1) % 4) r (0 - y) x = at' q r x y := by
  rcases (show q = 0 ∨ q = 1 ∨ q = 2 ∨ q = 3 by omega) with rfl | rfl | rfl | rfl <;> simp [at', tpx, tpy, rotx, roty]
theorem at_mirA {q : Nat} (hq : q = 0 ∨ q = 2) (r : Bool) (x y : Int) : at' q (!r) x (0 - y) = at' q r x y := by
  rcases hq with rfl | rfl <;> cases r <;> simp [at', tpx, tpy, rotx, roty, mir]
theorem at_mirB {q : Nat} (hq : q = 1 ∨ q = 3) (r : Bool) (x y : Int) : at' q (!r) (0 - x) y = at' q r x y := by
  rcases hq with rfl | rfl <;> cases r <;> simp [at', tpx, tpy, rotx, roty, mir]
theorem find_hd {q : Nat} (hq : q < 4) : Txt.find (Str.ofString "enws") (hdS q) = (q : Nat) := by
  rcases (show q = 0 ∨ q = 1 ∨ q = 2 ∨ q = 3 by omega) with rfl | rfl | rfl | rfl <;> decide +kernel
theorem find_tn (r : Bool) : Txt.find (Str.ofString "lr") (tnS r) = if r then 1 else 0 := by cases r <;> decide +kernel
theorem at_rl4 (r : Bool) : ∃ c, atI (Str.ofString "rl").cps.toList (if r then 1 else 0) = some c ∧ (⟨#[c]⟩ : Str) = tnS (!r) := by
  cases r
  · exact ⟨114, by decide +kernel, by decide +kernel⟩
  · exact ⟨108, by decide +kernel, by decide +kernel⟩
theorem len_rl4 : (Str.ofString "rl").length ≤ 16777216 := by decide +kernel
theorem fold_len {f : Int → List Int} {Z : Int → Prop} (hf : ∀ a b, Z a → Z b → f a = f b → a = b) : ∀ (ns ks : List Int), (∀ a ∈ ns, Z a) → (∀ a ∈ ks, Z a) → ((ns.map f).foldl addT (ks.map f)).length = (ns.foldl addK ks).length
  | [], ks, _, _ => by simp
  | n :: ns, ks, h1, h2 => by
    rw [List.map_cons, List.foldl_cons, List.foldl_cons]
    have hn := h1 n (by simp)
    have e : addT (ks.map f) (f n) = (addK ks n).map f := by
      unfold addT addK
      by_cases c : n ∈ ks
      · rw [if_pos c, if_pos (List.mem_map_of_mem c)]
      · rw [if_neg c, if_neg (fun h => by obtain ⟨a, ha, e⟩ := List.mem_map.mp h; rw [hf _ _ (h2 a ha) hn e] at ha; exact c ha)]
        simp
    rw [e]
    refine fold_len hf ns _ (fun a ha => h1 a (List.mem_cons_of_mem _ ha)) fun a ha => ?_
    rcases mem_addK.mp ha with h | rfl
    · exact h2 a h
    · exact hn
noncomputable def plF (s : Int) (q : Nat) (r : Bool) : Dv → Option PyData
  | .d (.int a) => some (prD (px q r (a - s)) (py q r (a - s)))
  | _ => none
theorem plF_map (s : Int) (q : Nat) (r : Bool) : ∀ L : List Int, ((L.map PyData.int).map Dv.d).filterMap (plF s q r) = L.map fun a => prD (px q r (a - s)) (py q r (a - s))
  | [] => rfl
  | a :: L => by
    rw [List.map_cons, List.map_cons, List.filterMap_cons_some (f := plF s q r) (b := prD (px q r (a - s)) (py q r (a - s))) rfl, plF_map s q r L]; rfl
theorem len_same {s : Int} {q : Nat} (hq : q < 4) (r : Bool) {L : List Int} (h : ∀ a ∈ L, s ≤ a) : (((L.map fun a => (px q r (a - s), py q r (a - s))).map fun p => [p.1, p.2]).foldl addT []).length = (L.foldl addK []).length := by
  rw [List.map_map]
  refine fold_len (Z := fun a => s ≤ a) (fun a b ha hb e => ?_) L [] h (by simp)
  simp only [Function.comp, List.cons.injEq, and_true] at e
  have h1 := pl_at hq r (n := a - s) (by omega)
  have h2 := pl_at hq r (n := b - s) (by omega)
  rw [e.1, e.2] at h1
  omega
end K04
set_option maxHeartbeats 4000000
namespace K04
open PySem L2 DL Sp
open K hiding F_law mo_law
open _root_.KT
open K03 (F__law_any_place mo__law_any_place at_memP)
open K04
open KC (isT_ss isT_st isT_ts)
open K10 (for_out forB_its isT_it isT_is)
open K18 (isT_ib isT_ii isT_tt)
abbrev F_law : Addr → DL.FD := KT.F_law
theorem mo_law {P : Addr} : DL.MoA (F_law P) := KT.mo_law
def top (i : Nat) : Stmt := PySem.Challenge.pw_laidround_k04_whole_spirals.main.body.getD i (.Pass ⟨0, 0, 0, 0⟩)
abbrev s_is_written_number : Stmt := top 19
abbrev s_read_spiral : Stmt := top 20
abbrev s_spiral_shown : Stmt := top 21
abbrev s_offset_of : Stmt := top 7
abbrev s_whole_root : Stmt := top 8
abbrev s_plain_ring : Stmt := top 9
abbrev s_plain_place : Stmt := top 10
abbrev s_quarters_of : Stmt := top 12
abbrev s_turned_left : Stmt := top 13
abbrev s_mirrored_by : Stmt := top 14
abbrev s_from_plain : Stmt := top 15
abbrev s_place_of : Stmt := top 22
abbrev s_plain_offset : Stmt := top 11
abbrev s_to_plain : Stmt := top 16
abbrev s_number_at : Stmt := top 23
abbrev s__law_deck : Stmt := top 26
abbrev s__law_mix : Stmt := top 25
abbrev s__law_next : Stmt := top 27
abbrev s__law_great : Stmt := top 28
abbrev s__law_spiral : Stmt := top 29
abbrev s__law_far : Stmt := top 30
abbrev s__law_any_place : Stmt := top 31
abbrev s__law_left : Stmt := top 32
abbrev s__law_otherwise_right : Stmt := top 33
abbrev s_law : Stmt := top 34
structure Tx (K : PySem.W.Frag) (mg : Str → Option Value) (base : Heap) where
  a_is_written_number : Addr
  fd_is_written_number : FuncData
  F_is_written_number : Fun K "is_written_number" "is_written_number" s_is_written_number a_is_written_number fd_is_written_number
  m_is_written_number : mg "is_written_number" = some (.ref a_is_written_number)
  n_is_written_number : Binds K fd_is_written_number ["text"] []
  a_read_spiral : Addr
  fd_read_spiral : FuncData
  F_read_spiral : Fun K "read_spiral" "read_spiral" s_read_spiral a_read_spiral fd_read_spiral
  m_read_spiral : mg "read_spiral" = some (.ref a_read_spiral)
  n_read_spiral : Binds K fd_read_spiral ["text"] []
  a_spiral_shown : Addr
  fd_spiral_shown : FuncData
  F_spiral_shown : Fun K "spiral_shown" "spiral_shown" s_spiral_shown a_spiral_shown fd_spiral_shown
  m_spiral_shown : mg "spiral_shown" = some (.ref a_spiral_shown)
  n_spiral_shown : Binds K fd_spiral_shown ["spiral"] []
  a_offset_of : Addr
  fd_offset_of : FuncData
  F_offset_of : Fun K "offset_of" "offset_of" s_offset_of a_offset_of fd_offset_of
  m_offset_of : mg "offset_of" = some (.ref a_offset_of)
  n_offset_of : Binds K fd_offset_of ["spiral", "number"] []
  a_whole_root : Addr
  fd_whole_root : FuncData
  F_whole_root : Fun K "whole_root" "whole_root" s_whole_root a_whole_root fd_whole_root
  m_whole_root : mg "whole_root" = some (.ref a_whole_root)
  n_whole_root : Binds K fd_whole_root ["square"] []
  a_plain_ring : Addr
  fd_plain_ring : FuncData
  F_plain_ring : Fun K "plain_ring" "plain_ring" s_plain_ring a_plain_ring fd_plain_ring
  m_plain_ring : mg "plain_ring" = some (.ref a_plain_ring)
  n_plain_ring : Binds K fd_plain_ring ["offset"] []
  a_plain_place : Addr
  fd_plain_place : FuncData
  F_plain_place : Fun K "plain_place" "plain_place" s_plain_place a_plain_place fd_plain_place
  m_plain_place : mg "plain_place" = some (.ref a_plain_place)
  n_plain_place : Binds K fd_plain_place ["offset"] []
  a_quarters_of : Addr
  fd_quarters_of : FuncData
  F_quarters_of : Fun K "quarters_of" "quarters_of" s_quarters_of a_quarters_of fd_quarters_of
  m_quarters_of : mg "quarters_of" = some (.ref a_quarters_of)
  n_quarters_of : Binds K fd_quarters_of ["heading"] []
  a_turned_left : Addr
  fd_turned_left : FuncData
  F_turned_left : Fun K "turned_left" "turned_left" s_turned_left a_turned_left fd_turned_left
  m_turned_left : mg "turned_left" = some (.ref a_turned_left)
  n_turned_left : Binds K fd_turned_left ["place", "quarters"] []
  a_mirrored_by : Addr
  fd_mirrored_by : FuncData
  F_mirrored_by : Fun K "mirrored_by" "mirrored_by" s_mirrored_by a_mirrored_by fd_mirrored_by
  m_mirrored_by : mg "mirrored_by" = some (.ref a_mirrored_by)
  n_mirrored_by : Binds K fd_mirrored_by ["turn", "place"] []
  a_from_plain : Addr
  fd_from_plain : FuncData
  F_from_plain : Fun K "from_plain" "from_plain" s_from_plain a_from_plain fd_from_plain
  m_from_plain : mg "from_plain" = some (.ref a_from_plain)
  n_from_plain : Binds K fd_from_plain ["spiral", "place"] []
  a_place_of : Addr
  fd_place_of : FuncData
  F_place_of : Fun K "place_of" "place_of" s_place_of a_place_of fd_place_of
  m_place_of : mg "place_of" = some (.ref a_place_of)
  n_place_of : Binds K fd_place_of ["spiral", "number"] []
  a_plain_offset : Addr
  fd_plain_offset : FuncData
  F_plain_offset : Fun K "plain_offset" "plain_offset" s_plain_offset a_plain_offset fd_plain_offset
  m_plain_offset : mg "plain_offset" = some (.ref a_plain_offset)
  n_plain_offset : Binds K fd_plain_offset ["place"] []
  a_to_plain : Addr
  fd_to_plain : FuncData
  F_to_plain : Fun K "to_plain" "to_plain" s_to_plain a_to_plain fd_to_plain
  m_to_plain : mg "to_plain" = some (.ref a_to_plain)
  n_to_plain : Binds K fd_to_plain ["spiral", "place"] []
  a_number_at : Addr
  fd_number_at : FuncData
  F_number_at : Fun K "number_at" "number_at" s_number_at a_number_at fd_number_at
  m_number_at : mg "number_at" = some (.ref a_number_at)
  n_number_at : Binds K fd_number_at ["spiral", "place"] []
  a__law_deck : Addr
  fd__law_deck : FuncData
  F__law_deck : Fun K "_law_deck" "_law_deck" s__law_deck a__law_deck fd__law_deck
  m__law_deck : mg "_law_deck" = some (.ref a__law_deck)
  n__law_deck : Binds K fd__law_deck ["script"] []
  a__law_mix : Addr
  fd__law_mix : FuncData
  F__law_mix : Fun K "_law_mix" "_law_mix" s__law_mix a__law_mix fd__law_mix
  m__law_mix : mg "_law_mix" = some (.ref a__law_mix)
  n__law_mix : Binds K fd__law_mix ["cell", "k"] []
  a__law_next : Addr
  fd__law_next : FuncData
  F__law_next : Fun K "_law_next" "_law_next" s__law_next a__law_next fd__law_next
  m__law_next : mg "_law_next" = some (.ref a__law_next)
  n__law_next : Binds K fd__law_next ["deck", "many"] []
  a__law_great : Addr
  fd__law_great : FuncData
  F__law_great : Fun K "_law_great" "_law_great" s__law_great a__law_great fd__law_great
  m__law_great : mg "_law_great" = some (.ref a__law_great)
  n__law_great : Binds K fd__law_great ["deck", "most"] []
  a__law_spiral : Addr
  fd__law_spiral : FuncData
  F__law_spiral : Fun K "_law_spiral" "_law_spiral" s__law_spiral a__law_spiral fd__law_spiral
  m__law_spiral : mg "_law_spiral" = some (.ref a__law_spiral)
  n__law_spiral : Binds K fd__law_spiral ["deck"] []
  a__law_far : Addr
  fd__law_far : FuncData
  F__law_far : Fun K "_law_far" "_law_far" s__law_far a__law_far fd__law_far
  m__law_far : mg "_law_far" = some (.ref a__law_far)
  n__law_far : Binds K fd__law_far ["deck", "most"] []
  a__law_any_place : Addr
  fd__law_any_place : FuncData
  F__law_any_place : Fun K "_law_any_place" "_law_any_place" s__law_any_place a__law_any_place fd__law_any_place
  m__law_any_place : mg "_law_any_place" = some (.ref a__law_any_place)
  n__law_any_place : Binds K fd__law_any_place ["deck"] []
  a__law_left : Addr
  fd__law_left : FuncData
  F__law_left : Fun K "_law_left" "_law_left" s__law_left a__law_left fd__law_left
  m__law_left : mg "_law_left" = some (.ref a__law_left)
  n__law_left : Binds K fd__law_left ["place"] []
  a__law_otherwise_right : Addr
  fd__law_otherwise_right : FuncData
  F__law_otherwise_right : Fun K "_law_otherwise_right" "_law_otherwise_right" s__law_otherwise_right a__law_otherwise_right fd__law_otherwise_right
  m__law_otherwise_right : mg "_law_otherwise_right" = some (.ref a__law_otherwise_right)
  n__law_otherwise_right : Binds K fd__law_otherwise_right ["deck", "spiral", "number"] []
  a_law : Addr
  fd_law : FuncData
  F_law : Fun K "law" "law" s_law a_law fd_law
  m_law : mg "law" = some (.ref a_law)
  n_law : Binds K fd_law ["script"] []
  b_abs : mg "abs" = none
  b_all : mg "all" = none
  b_int : mg "int" = none
  b_len : mg "len" = none
  b_max : mg "max" = none
  b_min : mg "min" = none
  b_range : mg "range" = none
  b_set : mg "set" = none
  b_sum : mg "sum" = none
  b_zip : mg "zip" = none
  a_HEADINGS : Addr
  m_HEADINGS : mg "HEADINGS" = some (.ref a_HEADINGS)
  d_HEADINGS : ∀ I, Dp K I (.ref a_HEADINGS) (.tuple [.str "e", .str "n", .str "w", .str "s"])
  t_HEADINGS : Array Value
  c_HEADINGS : Nat
  l_HEADINGS : Array (Option Value)
  k_HEADINGS : K.lookup a_HEADINGS = some ⟨.type "tuple", none, .seq t_HEADINGS c_HEADINGS, l_HEADINGS⟩
  s_HEADINGS : ∀ I, SqT K I a_HEADINGS [.str "e", .str "n", .str "w", .str "s"]
  a_HEADINGS_all : ∀ I, DpAll K I [.str "e", .str "n", .str "w", .str "s"] [.str "e", .str "n", .str "w", .str "s"]
  a_TURNS : Addr
  m_TURNS : mg "TURNS" = some (.ref a_TURNS)
  d_TURNS : ∀ I, Dp K I (.ref a_TURNS) (.tuple [.str "l", .str "r"])
  t_TURNS : Array Value
  c_TURNS : Nat
  l_TURNS : Array (Option Value)
  k_TURNS : K.lookup a_TURNS = some ⟨.type "tuple", none, .seq t_TURNS c_TURNS, l_TURNS⟩
  s_TURNS : ∀ I, SqT K I a_TURNS [.str "l", .str "r"]
  a_TURNS_all : ∀ I, DpAll K I [.str "l", .str "r"] [.str "l", .str "r"]
  aP : Addr
  aC : Addr
  gk : GenK K aC aP
  bm : BmB base mg
  gc : fd_is_written_number.code = .ref aC
  t_FIGURES : Tok
  m_FIGURES : mg "FIGURES" = some (.str "0123456789" t_FIGURES)
section
variable {P : Program} {w : World} {K : PySem.W.Frag} {mg : Str → Option Value} {base : Heap}
theorem sc_is_written_number : FnScope ["text", "figures"] ["text"] (defScope s_is_written_number) := ⟨rfl, rfl, rfl, by decide +kernel, rfl, by decide +kernel, by decide +kernel⟩
theorem ok_is_written_number (T : Tx K mg base) : FnOk P w K mg base CX0 1 T.a_is_written_number T.fd_is_written_number ["text"] (spD K (F_is_written_number T.aP)) := by
  refine Fun.okDC T.F_is_written_number sc_is_written_number mo_is_written_number (fun ds m Q h => ?_) (fun cdv hcdv A outer s H E hr => ?_)
  · unfold F_is_written_number at h; obtain ⟨z0, rfl, hP, hz, z⟩ := h; rfl
  · refine ⟨_, (dss_cons (ds_if (dt_eq hr (dv 0) de_str) (dss_one (ds_ret de_bl)) dss_nil)
      (dss_cons (ds_set (i := 1) sc_is_written_number.nd rfl (by first | exact Or.inl rfl | exact Or.inr rfl) (de_rmpre (dv 0) de_str))
      (dss_cons (ds_if (DW.dt (dw_or (dt_eq hr (dv 1) de_str) (dw_or1 (dt_eq hr (de_ix (dv 1) de_int) de_str)))) (dss_one (ds_ret de_bl)) dss_nil)
      (dss_one (ds_ret (de_allG hr T.gk T.bm (hcdv.symm.trans T.gc) (by rfl) T.b_all (dv 1) (elt_inG rfl rfl rfl rfl T.m_FIGURES) rfl rfl (by decide +kernel) rfl rfl rfl (fun _ => rfl))))))), fun ds m Q h => ?_⟩
    obtain ⟨z0, rfl, hP, hz, z⟩ := h
    try simp only [sSeq, sAsg, sRet, sIf, sDrop, sNext, sNever, dOp, dUn, dVar, dC, dTest, isBool, dAnd, dOr, dNot, dAndV, dOrV, dNotV, dIf, dCons, dNil, dTup, dLst, dLstM, datas, dCall, dCB, gI0, gI, gB0, g1I, gAdd, gEqD, gNeD, gIx, gIn, g1A, g2A, gInt, gLen, gTuple, gSum, gBest, dSl, dNoPart, dPart, dgName, dgTup, dgCons, dgNil, dgSub, gSetI, dIndexT, dChain, startD, List.map_cons, List.map_nil, List.length_cons, List.length_nil, List.replicate, List.append, List.cons_append, List.nil_append, List.getElem?_cons_zero, List.getElem?_cons_succ, List.set_cons_zero, List.set_cons_succ, Option.some.injEq, Dv.d.injEq, Dv.r.injEq, PyData.tuple.injEq, PyData.list.injEq, PyData.str.injEq, PyData.int.injEq, exists_eq_left', Option.map_some, Nat.zero_add, Nat.reduceAdd, Nat.reduceSub, true_and, and_true, exists_and_left, at0, at1, at2, at3, at4, eqv_int, shaped_int, eqv_pr, shaped_pr, bes, intsD, in4, flat4, flatI, Bool.not_eq_true', decide_eq_false_iff_not, not_true_eq_false, if_true, if_false, Bool.not_true, Bool.not_false, Bool.false_eq_true, Bool.true_eq_false, Bool.or_eq_false_iff,  shaped_tn, shaped_hd, shaped_r, decide_eq_true_eq, sizeLine_eq, Nat.reduceLeDiff, Int.reduceToNat, Int.reducePow, Int.reduceMul, Int.reduceAdd, Int.reduceSub, Int.reduceNeg, Int.reduceMod, setM_same, MO.lst.injEq, setM_setM, ix0, ix1, ix2, ix3, ix4, dPick, keyOf, dSlT, dTupRng, gAppend, dAppend, g2B, dM1, eqv_tn, eqv_tnl, shaped_l, dSlM, g1N, dIsi, tyD, gListD, gListM, gTupleM, sPar, dgPair, isT_it, isT_is, isT_ib, isT_ii, isT_tt, gInS, sTry, xCall, xSeq, xIf, xThen, xRaise, dIsE, dNum, dRep1, gAddT, isT_ss, isT_st, isT_ts, dgAny, djNil, djStr, djFmt, gShow, gRmp, gSplit, gJoin, gIntS, gMulS, dAllG, dRev, gListD]
    have s0 : ∀ y : String, Cp (Str.ofString y) → SeqAt.shaped (.str (Str.ofString y)) = true := fun y h => shaped_str h
    have sA : SeqAt.shaped (.str (Str.ofString "0")) = true := by decide +kernel
    have sB : SeqAt.shaped (.str (Str.ofString "")) = true := by decide +kernel
    have ev : ∀ a b : Str, PyData.eqv (.str a) (.str b) = (a == b) := fun _ _ => rfl
    refine ⟨shaped_str hz.2, sA, ?_⟩
    rw [ev]
    unfold isW at z
    by_cases c0 : (z0 == Str.ofString "0") = true
    · rw [if_pos c0]
      rw [c0, Bool.true_or] at z
      exact z
    · rw [if_neg c0]
      have c0' : (z0 == Str.ofString "0") = false := by simpa using c0
      rw [c0', Bool.false_or] at z
      have hb := rmp z0
      have hl := PyProof.Rows.len_removeprefix z0 (Str.ofString "-")
      have hg : Cp (Txt.removeprefix z0 (Str.ofString "-")) := fun c hc => hz.2 c (bare_sub z0 c (by rw [← hb]; exact hc))
      generalize Txt.removeprefix z0 (Str.ofString "-") = g at hb hl hg ⊢
      rw [← hb] at z
      have e0 : (Str.ofString "").cps.toList = [] := by decide +kernel
      have e1 : (Str.ofString "0") = ⟨#[48]⟩ := by decide +kernel
      refine ⟨⟨_, rfl⟩, by omega, shaped_str hg, sB, ?_⟩
      rw [ev]
      cases e : g.cps.toList with
      | nil =>
        rw [e] at z
        have eg : g = Str.ofString "" := str_ext (by rw [e, e0])
        rw [if_pos (by rw [eg]; exact beq_self_eq_true _)]
        exact z
      | cons c l =>
        rw [e] at z
        have ng : ¬ (g == Str.ofString "") = true := fun h => by
          have h := eq_of_beq h
          rw [h, e0] at e
          cases e
        rw [if_neg ng]
        refine ⟨by omega, c, at0, shaped_str (fun d hd => by simp at hd; subst hd; exact hg _ (by rw [e]; simp)), sA, ?_⟩
        rw [ev, e1]
        by_cases c1 : c = 48
        · subst c1
          rw [if_pos (beq_self_eq_true _)]
          exact z
        · rw [if_neg (fun h => c1 (by have h := eq_of_beq h; injection h with h; simpa using h))]
          refine ⟨hP, ?_⟩
          have ea : ((c :: l).all fun cc => occ ⟨#[cc]⟩ (Str.ofString "0123456789")) = (c :: l).all isFig := congrArg (c :: l).all (funext occ_fig)
          rw [ea]
          have en : ((c :: l).head? != some 48) = true := by simp [c1]
          rw [en] at z
          simpa using z
theorem sc_read_spiral : FnScope ["text", "words", "start", "heading", "turn"] ["text"] (defScope s_read_spiral) := ⟨rfl, rfl, rfl, by decide +kernel, rfl, by decide +kernel, by decide +kernel⟩
theorem ok_read_spiral (T : Tx K mg base) : FnOk P w K mg base CX0 2 T.a_read_spiral T.fd_read_spiral ["text"] (spD K (F_read_spiral T.aP)) := by
  refine Fun.okD T.F_read_spiral sc_read_spiral mo_read_spiral (fun ds m Q h => ?_) (fun cdv A outer s H E hr => ?_)
  · unfold F_read_spiral at h; obtain ⟨s, q, r, rfl, hq, hs, hP, z⟩ := h; rfl
  · refine ⟨_, (dss_cons (ds_set (i := 1) sc_read_spiral.nd rfl (by first | exact Or.inl rfl | exact Or.inr rfl) (de_split (dv 0) de_str))
      (dss_cons (ds_if (dt_ne hr (de_len (by rfl) T.b_len (da_cons (dv 1) da_nil)) de_int) (dss_one ds_never) dss_nil)
      (dss_cons (ds_asg (dv 1) (dg_any (n := 3) rfl (dgs_cons (dg_name (i := 2) sc_read_spiral.nd rfl (by first | exact Or.inl rfl | exact Or.inr rfl)) (dgs_cons (dg_name (i := 3) sc_read_spiral.nd rfl (by first | exact Or.inl rfl | exact Or.inr rfl)) (dgs_cons (dg_name (i := 4) sc_read_spiral.nd rfl (by first | exact Or.inl rfl | exact Or.inr rfl)) dgs_nil)))))
      (dss_cons (ds_if (DW.dt (dw_or (dt_not (dt_val (de_call mo_is_written_number ((ok_is_written_number T).mono (by decide : 1 ≤ 1)) hr (by rfl) T.m_is_written_number T.F_is_written_number.kp T.n_is_written_number (da_cons (dv 2) da_nil)))) (dw_or (dt_notin (dv 3) (de_glob (v := .ref T.a_HEADINGS) (by rfl) T.m_HEADINGS rfl T.d_HEADINGS)) (dw_or1 (dt_notin (dv 4) (de_glob (v := .ref T.a_TURNS) (by rfl) T.m_TURNS rfl T.d_TURNS)))))) (dss_one ds_never) dss_nil)
      (dss_one (ds_ret (de_tup (da_cons (de_intS (by rfl) T.b_int (da_cons (dv 2) da_nil)) (da_cons (dv 3) (da_cons (dv 4) da_nil)))))))))), fun ds m Q h => ?_⟩
    obtain ⟨s, q, r, rfl, hq, hs, hP, z⟩ := h
    try simp only [sSeq, sAsg, sRet, sIf, sDrop, sNext, sNever, dOp, dUn, dVar, dC, dTest, isBool, dAnd, dOr, dNot, dAndV, dOrV, dNotV, dIf, dCons, dNil, dTup, dLst, dLstM, datas, dCall, dCB, gI0, gI, gB0, g1I, gAdd, gEqD, gNeD, gIx, gIn, g1A, g2A, gInt, gLen, gTuple, gSum, gBest, dSl, dNoPart, dPart, dgName, dgTup, dgCons, dgNil, dgSub, gSetI, dIndexT, dChain, startD, List.map_cons, List.map_nil, List.length_cons, List.length_nil, List.replicate, List.append, List.cons_append, List.nil_append, List.getElem?_cons_zero, List.getElem?_cons_succ, List.set_cons_zero, List.set_cons_succ, Option.some.injEq, Dv.d.injEq, Dv.r.injEq, PyData.tuple.injEq, PyData.list.injEq, PyData.str.injEq, PyData.int.injEq, exists_eq_left', Option.map_some, Nat.zero_add, Nat.reduceAdd, Nat.reduceSub, true_and, and_true, exists_and_left, at0, at1, at2, at3, at4, eqv_int, shaped_int, eqv_pr, shaped_pr, bes, intsD, in4, flat4, flatI, Bool.not_eq_true', decide_eq_false_iff_not, not_true_eq_false, if_true, if_false, Bool.not_true, Bool.not_false, Bool.false_eq_true, Bool.true_eq_false, Bool.or_eq_false_iff,  shaped_tn, shaped_hd, shaped_r, decide_eq_true_eq, sizeLine_eq, Nat.reduceLeDiff, Int.reduceToNat, Int.reducePow, Int.reduceMul, Int.reduceAdd, Int.reduceSub, Int.reduceNeg, Int.reduceMod, setM_same, MO.lst.injEq, setM_setM, ix0, ix1, ix2, ix3, ix4, dPick, keyOf, dSlT, dTupRng, gAppend, dAppend, g2B, dM1, eqv_tn, eqv_tnl, shaped_l, dSlM, g1N, dIsi, tyD, gListD, gListM, gTupleM, sPar, dgPair, isT_it, isT_is, isT_ib, isT_ii, isT_tt, gInS, sTry, xCall, xSeq, xIf, xThen, xRaise, dIsE, dNum, dRep1, gAddT, isT_ss, isT_st, isT_ts, dgAny, djNil, djStr, djFmt, gShow, gRmp, gSplit, gJoin, gIntS, gMulS, dAllG, dRev, gListD]
    have hl := spt_len hs q r
    refine ⟨⟨_, rfl⟩, by decide +kernel, by omega, ?_⟩
    rw [spt_split]
    try simp only [sSeq, sAsg, sRet, sIf, sDrop, sNext, sNever, dOp, dUn, dVar, dC, dTest, isBool, dAnd, dOr, dNot, dAndV, dOrV, dNotV, dIf, dCons, dNil, dTup, dLst, dLstM, datas, dCall, dCB, gI0, gI, gB0, g1I, gAdd, gEqD, gNeD, gIx, gIn, g1A, g2A, gInt, gLen, gTuple, gSum, gBest, dSl, dNoPart, dPart, dgName, dgTup, dgCons, dgNil, dgSub, gSetI, dIndexT, dChain, startD, List.map_cons, List.map_nil, List.length_cons, List.length_nil, List.replicate, List.append, List.cons_append, List.nil_append, List.getElem?_cons_zero, List.getElem?_cons_succ, List.set_cons_zero, List.set_cons_succ, Option.some.injEq, Dv.d.injEq, Dv.r.injEq, PyData.tuple.injEq, PyData.list.injEq, PyData.str.injEq, PyData.int.injEq, exists_eq_left', Option.map_some, Nat.zero_add, Nat.reduceAdd, Nat.reduceSub, true_and, and_true, exists_and_left, at0, at1, at2, at3, at4, eqv_int, shaped_int, eqv_pr, shaped_pr, bes, intsD, in4, flat4, flatI, Bool.not_eq_true', decide_eq_false_iff_not, not_true_eq_false, if_true, if_false, Bool.not_true, Bool.not_false, Bool.false_eq_true, Bool.true_eq_false, Bool.or_eq_false_iff,  shaped_tn, shaped_hd, shaped_r, decide_eq_true_eq, sizeLine_eq, Nat.reduceLeDiff, Int.reduceToNat, Int.reducePow, Int.reduceMul, Int.reduceAdd, Int.reduceSub, Int.reduceNeg, Int.reduceMod, setM_same, MO.lst.injEq, setM_setM, ix0, ix1, ix2, ix3, ix4, dPick, keyOf, dSlT, dTupRng, gAppend, dAppend, g2B, dM1, eqv_tn, eqv_tnl, shaped_l, dSlM, g1N, dIsi, tyD, gListD, gListM, gTupleM, sPar, dgPair, isT_it, isT_is, isT_ib, isT_ii, isT_tt, gInS, sTry, xCall, xSeq, xIf, xThen, xRaise, dIsE, dNum, dRep1, gAddT, isT_ss, isT_st, isT_ts, dgAny, djNil, djStr, djFmt, gShow, gRmp, gSplit, gJoin, gIntS, gMulS, dAllG, dRev, gListD]
    rw [if_neg (by decide)]
    refine ⟨shw s, rfl, hP, ⟨by have := shw_len hs; omega, shw_cp s⟩, ?_⟩
    rw [isW_shown]
    try simp only [sSeq, sAsg, sRet, sIf, sDrop, sNext, sNever, dOp, dUn, dVar, dC, dTest, isBool, dAnd, dOr, dNot, dAndV, dOrV, dNotV, dIf, dCons, dNil, dTup, dLst, dLstM, datas, dCall, dCB, gI0, gI, gB0, g1I, gAdd, gEqD, gNeD, gIx, gIn, g1A, g2A, gInt, gLen, gTuple, gSum, gBest, dSl, dNoPart, dPart, dgName, dgTup, dgCons, dgNil, dgSub, gSetI, dIndexT, dChain, startD, List.map_cons, List.map_nil, List.length_cons, List.length_nil, List.replicate, List.append, List.cons_append, List.nil_append, List.getElem?_cons_zero, List.getElem?_cons_succ, List.set_cons_zero, List.set_cons_succ, Option.some.injEq, Dv.d.injEq, Dv.r.injEq, PyData.tuple.injEq, PyData.list.injEq, PyData.str.injEq, PyData.int.injEq, exists_eq_left', Option.map_some, Nat.zero_add, Nat.reduceAdd, Nat.reduceSub, true_and, and_true, exists_and_left, at0, at1, at2, at3, at4, eqv_int, shaped_int, eqv_pr, shaped_pr, bes, intsD, in4, flat4, flatI, Bool.not_eq_true', decide_eq_false_iff_not, not_true_eq_false, if_true, if_false, Bool.not_true, Bool.not_false, Bool.false_eq_true, Bool.true_eq_false, Bool.or_eq_false_iff,  shaped_tn, shaped_hd, shaped_r, decide_eq_true_eq, sizeLine_eq, Nat.reduceLeDiff, Int.reduceToNat, Int.reducePow, Int.reduceMul, Int.reduceAdd, Int.reduceSub, Int.reduceNeg, Int.reduceMod, setM_same, MO.lst.injEq, setM_setM, ix0, ix1, ix2, ix3, ix4, dPick, keyOf, dSlT, dTupRng, gAppend, dAppend, g2B, dM1, eqv_tn, eqv_tnl, shaped_l, dSlM, g1N, dIsi, tyD, gListD, gListM, gTupleM, sPar, dgPair, isT_it, isT_is, isT_ib, isT_ii, isT_tt, gInS, sTry, xCall, xSeq, xIf, xThen, xRaise, dIsE, dNum, dRep1, gAddT, isT_ss, isT_st, isT_ts, dgAny, djNil, djStr, djFmt, gShow, gRmp, gSplit, gJoin, gIntS, gMulS, dAllG, dRev, gListD]
    have i1 : inD (PyData.str (hdS q)) [PyData.str (Str.ofString "e"), PyData.str (Str.ofString "n"), PyData.str (Str.ofString "w"), PyData.str (Str.ofString "s")] = true := by
      rcases (show q = 0 ∨ q = 1 ∨ q = 2 ∨ q = 3 by omega) with rfl | rfl | rfl | rfl <;> decide +kernel
    have i2 : inD (PyData.str (tnS r)) [PyData.str (Str.ofString "l"), PyData.str (Str.ofString "r")] = true := by cases r <;> decide +kernel
    rw [i1, i2, if_neg (by decide), if_neg (by decide)]
    have h3 := shw_len hs
    exact ⟨rfl, by decide +kernel, rfl, by decide +kernel, s, shown_reads s (by show (shw s).length ≤ 4300; omega), by omega, z⟩
theorem sc_spiral_shown : FnScope ["spiral", "start", "heading", "turn"] ["spiral"] (defScope s_spiral_shown) := ⟨rfl, rfl, rfl, by decide +kernel, rfl, by decide +kernel, by decide +kernel⟩
theorem ok_spiral_shown (T : Tx K mg base) : FnOk P w K mg base CX0 1 T.a_spiral_shown T.fd_spiral_shown ["spiral"] (spD K F_spiral_shown) := by
  refine Fun.okD T.F_spiral_shown sc_spiral_shown mo_spiral_shown (fun ds m Q h => ?_) (fun cdv A outer s H E hr => ?_)
  · unfold F_spiral_shown at h; obtain ⟨s, q, r, rfl, hs, z⟩ := h; rfl
  · refine ⟨_, (dss_cons (ds_asg (dv 0) (dg_tup (n := 3) rfl (dgs_cons (dg_name (i := 1) sc_spiral_shown.nd rfl (by first | exact Or.inl rfl | exact Or.inr rfl)) (dgs_cons (dg_name (i := 2) sc_spiral_shown.nd rfl (by first | exact Or.inl rfl | exact Or.inr rfl)) (dgs_cons (dg_name (i := 3) sc_spiral_shown.nd rfl (by first | exact Or.inl rfl | exact Or.inr rfl)) dgs_nil)))))
      (dss_one (ds_ret (de_fstr (dj_fmt (dv 1) (dj_str de_str (dj_fmt (dv 2) (dj_str de_str (dj_fmt (dv 3) dj_nil))))))))), fun ds m Q h => ?_⟩
    obtain ⟨s, q, r, rfl, hs, z⟩ := h
    try simp only [sSeq, sAsg, sRet, sIf, sDrop, sNext, sNever, dOp, dUn, dVar, dC, dTest, isBool, dAnd, dOr, dNot, dAndV, dOrV, dNotV, dIf, dCons, dNil, dTup, dLst, dLstM, datas, dCall, dCB, gI0, gI, gB0, g1I, gAdd, gEqD, gNeD, gIx, gIn, g1A, g2A, gInt, gLen, gTuple, gSum, gBest, dSl, dNoPart, dPart, dgName, dgTup, dgCons, dgNil, dgSub, gSetI, dIndexT, dChain, startD, List.map_cons, List.map_nil, List.length_cons, List.length_nil, List.replicate, List.append, List.cons_append, List.nil_append, List.getElem?_cons_zero, List.getElem?_cons_succ, List.set_cons_zero, List.set_cons_succ, Option.some.injEq, Dv.d.injEq, Dv.r.injEq, PyData.tuple.injEq, PyData.list.injEq, PyData.str.injEq, PyData.int.injEq, exists_eq_left', Option.map_some, Nat.zero_add, Nat.reduceAdd, Nat.reduceSub, true_and, and_true, exists_and_left, at0, at1, at2, at3, at4, eqv_int, shaped_int, eqv_pr, shaped_pr, bes, intsD, in4, flat4, flatI, Bool.not_eq_true', decide_eq_false_iff_not, not_true_eq_false, if_true, if_false, Bool.not_true, Bool.not_false, Bool.false_eq_true, Bool.true_eq_false, Bool.or_eq_false_iff,  shaped_tn, shaped_hd, shaped_r, decide_eq_true_eq, sizeLine_eq, Nat.reduceLeDiff, Int.reduceToNat, Int.reducePow, Int.reduceMul, Int.reduceAdd, Int.reduceSub, Int.reduceNeg, Int.reduceMod, setM_same, MO.lst.injEq, setM_setM, ix0, ix1, ix2, ix3, ix4, dPick, keyOf, dSlT, dTupRng, gAppend, dAppend, g2B, dM1, eqv_tn, eqv_tnl, shaped_l, dSlM, g1N, dIsi, tyD, gListD, gListM, gTupleM, sPar, dgPair, isT_it, isT_is, isT_ib, isT_ii, isT_tt, gInS, sTry, xCall, xSeq, xIf, xThen, xRaise, dIsE, dNum, dRep1, gAddT, isT_ss, isT_st, isT_ts, dgAny, djNil, djStr, djFmt, gShow, gRmp, gSplit, gJoin, gIntS, gMulS, dAllG, dRev, gListD]
    have h1 := shw_len hs
    have e1 : (Str.ofString " ").length = 1 := by decide +kernel
    have e0 : Str.empty.length = 0 := rfl
    have hlg : s.natAbs.log2 < 1920 := by
      by_cases h0 : s.natAbs = 0
      · rw [h0]; decide
      · have := (Nat.log2_lt h0 (k := 100)).mpr (by omega)
        omega
    have eq1 := spt_fstr s q r
    unfold shw at h1 eq1
    rw [eq1]
    simp only [PySem.strLen_append, hdS_len, tnS_len, e1, e0]
    have h2 := spt_len hs q r
    exact ⟨hlg, by omega, by omega, by omega, by omega, by omega, by omega, by omega, by omega, z⟩
theorem sc_offset_of : FnScope ["spiral", "number", "start"] ["spiral", "number"] (defScope s_offset_of) := ⟨rfl, rfl, rfl, by decide +kernel, rfl, by decide +kernel, by decide +kernel⟩
theorem ok_offset_of (T : Tx K mg base) : FnOk P w K mg base CX0 1 T.a_offset_of T.fd_offset_of ["spiral", "number"] (spD K F_offset_of) := by
  refine Fun.okD T.F_offset_of sc_offset_of mo_offset_of (fun ds m Q h => ?_) (fun cdv A outer s H E hr => ?_)
  · unfold F_offset_of at h; obtain ⟨s, q, r, n, rfl, l, z⟩ := h; rfl
  · refine ⟨_, (dss_cons (ds_set (i := 2) sc_offset_of.nd rfl (by first | exact Or.inl rfl | exact Or.inr rfl) (de_ix (dv 0) de_int))
      (dss_cons (ds_if (dt_lt (dv 1) (dv 2)) (dss_one ds_never) dss_nil)
      (dss_one (ds_ret (de_sub (dv 1) (dv 2)))))), fun ds m Q h => ?_⟩
    obtain ⟨s, q, r, n, rfl, l, z⟩ := h
    try simp only [sSeq, sAsg, sRet, sIf, sDrop, sNext, sNever, dOp, dUn, dVar, dC, dTest, isBool, dAnd, dOr, dNot, dAndV, dOrV, dNotV, dIf, dCons, dNil, dTup, dLst, dLstM, datas, dCall, dCB, gI0, gI, gB0, g1I, gAdd, gEqD, gNeD, gIx, gIn, g1A, g2A, gInt, gLen, gTuple, gSum, gBest, dSl, dNoPart, dPart, dgName, dgTup, dgCons, dgNil, dgSub, gSetI, dIndexT, dChain, startD, List.map_cons, List.map_nil, List.length_cons, List.length_nil, List.replicate, List.append, List.cons_append, List.nil_append, List.getElem?_cons_zero, List.getElem?_cons_succ, List.set_cons_zero, List.set_cons_succ, Option.some.injEq, Dv.d.injEq, Dv.r.injEq, PyData.tuple.injEq, PyData.list.injEq, PyData.str.injEq, PyData.int.injEq, exists_eq_left', Option.map_some, Nat.zero_add, Nat.reduceAdd, Nat.reduceSub, true_and, and_true, exists_and_left, at0, at1, at2, at3, at4, eqv_int, shaped_int, eqv_pr, shaped_pr, bes, intsD, in4, flat4, flatI, Bool.not_eq_true', decide_eq_false_iff_not, not_true_eq_false, if_true, if_false, Bool.not_true, Bool.not_false, Bool.false_eq_true, Bool.true_eq_false, Bool.or_eq_false_iff,  shaped_tn, shaped_hd, shaped_r, decide_eq_true_eq, sizeLine_eq, Nat.reduceLeDiff, Int.reduceToNat, Int.reducePow, Int.reduceMul, Int.reduceAdd, Int.reduceSub, Int.reduceNeg, Int.reduceMod, setM_same, MO.lst.injEq, setM_setM, ix0, ix1, ix2, ix3, ix4]
    rw [if_neg (by omega)]
    exact z
theorem sc_whole_root : FnScope ["square", "root", "better"] ["square"] (defScope s_whole_root) := ⟨rfl, rfl, rfl, by decide +kernel, rfl, by decide +kernel, by decide +kernel⟩
theorem ok_whole_root (T : Tx K mg base) : FnOk P w K mg base CX0 1 T.a_whole_root T.fd_whole_root ["square"] (spD K F_whole_root) := by
  refine Fun.okD T.F_whole_root sc_whole_root mo_whole_root (fun ds m Q h => ?_) (fun cdv A outer s H E hr => ?_)
  · unfold F_whole_root at h; obtain ⟨n, rfl, l0, l1, z⟩ := h; rfl
  · refine ⟨_, (dss_cons (ds_if (dt_eq hr (dv 0) de_int) (dss_one (ds_ret de_int)) dss_nil)
      (dss_cons (ds_set (i := 1) sc_whole_root.nd rfl (by first | exact Or.inl rfl | exact Or.inr rfl) (de_shl de_int (de_fdiv (de_add (de_bits (dv 0)) de_int) de_int)))
      (dss_cons (ds_set (i := 2) sc_whole_root.nd rfl (by first | exact Or.inl rfl | exact Or.inr rfl) (de_fdiv (de_add (dv 1) (de_fdiv (dv 0) (dv 1))) de_int))
      (dss_cons (ds_while PassesOwn.never (dt_lt (dv 2) (dv 1)) (dss_cons (ds_set (i := 1) sc_whole_root.nd rfl (by first | exact Or.inl rfl | exact Or.inr rfl) (dv 2))
      (dss_one (ds_set (i := 2) sc_whole_root.nd rfl (by first | exact Or.inl rfl | exact Or.inr rfl) (de_fdiv (de_add (dv 1) (de_fdiv (dv 0) (dv 1))) de_int)))))
      (dss_one (ds_ret (dv 1))))))), fun ds m Q h => ?_⟩
    obtain ⟨n, rfl, l0, l1, z⟩ := h
    try simp only [sSeq, sAsg, sRet, sIf, sDrop, sNext, sNever, dOp, dUn, dVar, dC, dTest, isBool, dAnd, dOr, dNot, dAndV, dOrV, dNotV, dIf, dCons, dNil, dTup, dLst, dLstM, datas, dCall, dCB, gI0, gI, gB0, g1I, gAdd, gEqD, gNeD, gIx, gIn, g1A, g2A, gInt, gLen, gTuple, gSum, gBest, dSl, dNoPart, dPart, dgName, dgTup, dgCons, dgNil, dgSub, gSetI, dIndexT, dChain, startD, List.map_cons, List.map_nil, List.length_cons, List.length_nil, List.replicate, List.append, List.cons_append, List.nil_append, List.getElem?_cons_zero, List.getElem?_cons_succ, List.set_cons_zero, List.set_cons_succ, Option.some.injEq, Dv.d.injEq, Dv.r.injEq, PyData.tuple.injEq, PyData.list.injEq, PyData.str.injEq, PyData.int.injEq, exists_eq_left', Option.map_some, Nat.zero_add, Nat.reduceAdd, Nat.reduceSub, true_and, and_true, exists_and_left, at0, at1, at2, at3, at4, eqv_int, shaped_int, eqv_pr, shaped_pr, bes, intsD, in4, flat4, flatI, Bool.not_eq_true', decide_eq_false_iff_not, not_true_eq_false, if_true, if_false, Bool.not_true, Bool.not_false, Bool.false_eq_true, Bool.true_eq_false, Bool.or_eq_false_iff,  shaped_tn, shaped_hd, shaped_r, decide_eq_true_eq, sizeLine_eq, Nat.reduceLeDiff, Int.reduceToNat, Int.reducePow, Int.reduceMul, Int.reduceAdd, Int.reduceSub, Int.reduceNeg, Int.reduceMod, setM_same, MO.lst.injEq, setM_setM, ix0, ix1, ix2, ix3, ix4]
    by_cases h0 : n = 0
    · rw [if_pos h0]
      subst h0
      exact z 0 ⟨by decide, by decide, by decide⟩
    · rw [if_neg h0]
      obtain ⟨hb1, hb2⟩ := bits_ok (n := n) (by omega) l1
      generalize hB : ((Builtin.Int.intBits n : Int) + 1) / 2 = B at *
      refine ⟨by unfold CDivB; decide, by unfold CPow; omega, ?_⟩
      generalize hR : (1 : Int) * 2 ^ B.toNat = R at *
      refine ⟨by unfold CDivB; omega, by unfold CDivB; decide, ?_⟩
      unfold sWhile
      refine ⟨fun k δ m' => ∃ root : Int, δ = [some (I n), some (I root), some (I ((root + n / root) / 2))] ∧ m' = m ∧ k = root.toNat ∧ 1 ≤ root ∧ root < 2 ^ 100 ∧ n < (root + 1) * (root + 1), ⟨_, R, rfl, rfl, rfl, by omega, by omega, ?_⟩, ?_⟩
      · have : R * R ≤ (R + 1) * (R + 1) := Int.mul_le_mul (by omega) (by omega) (by omega) (by omega)
        omega
      · rintro k δ m' ⟨root, rfl, rfl, rfl, r1, r2, r3⟩
        try simp only [sSeq, sAsg, sRet, sIf, sDrop, sNext, sNever, dOp, dUn, dVar, dC, dTest, isBool, dAnd, dOr, dNot, dAndV, dOrV, dNotV, dIf, dCons, dNil, dTup, dLst, dLstM, datas, dCall, dCB, gI0, gI, gB0, g1I, gAdd, gEqD, gNeD, gIx, gIn, g1A, g2A, gInt, gLen, gTuple, gSum, gBest, dSl, dNoPart, dPart, dgName, dgTup, dgCons, dgNil, dgSub, gSetI, dIndexT, dChain, startD, List.map_cons, List.map_nil, List.length_cons, List.length_nil, List.replicate, List.append, List.cons_append, List.nil_append, List.getElem?_cons_zero, List.getElem?_cons_succ, List.set_cons_zero, List.set_cons_succ, Option.some.injEq, Dv.d.injEq, Dv.r.injEq, PyData.tuple.injEq, PyData.list.injEq, PyData.str.injEq, PyData.int.injEq, exists_eq_left', Option.map_some, Nat.zero_add, Nat.reduceAdd, Nat.reduceSub, true_and, and_true, exists_and_left, at0, at1, at2, at3, at4, eqv_int, shaped_int, eqv_pr, shaped_pr, bes, intsD, in4, flat4, flatI, Bool.not_eq_true', decide_eq_false_iff_not, not_true_eq_false, if_true, if_false, Bool.not_true, Bool.not_false, Bool.false_eq_true, Bool.true_eq_false, Bool.or_eq_false_iff,  shaped_tn, shaped_hd, shaped_r, decide_eq_true_eq, sizeLine_eq, Nat.reduceLeDiff, Int.reduceToNat, Int.reducePow, Int.reduceMul, Int.reduceAdd, Int.reduceSub, Int.reduceNeg, Int.reduceMod, setM_same, MO.lst.injEq, setM_setM, ix0, ix1, ix2, ix3, ix4]
        by_cases hlt : (root + n / root) / 2 < root
        · rw [if_pos hlt]
          obtain ⟨t1, t2⟩ := newton (n := n) (r := root) (by omega) r1
          refine ⟨fun δ' m2 => ∃ root' : Int, δ' = [some (I n), some (I root'), some (I ((root' + n / root') / 2))] ∧ m2 = m' ∧ root'.toNat < root.toNat ∧ 1 ≤ root' ∧ root' < 2 ^ 100 ∧ n < (root' + 1) * (root' + 1), ?_, ?_⟩
          · rintro δ' m2 ⟨root', rfl, rfl, hm, h1, h2, h3⟩
            exact ⟨_, hm, root', rfl, rfl, rfl, h1, h2, h3⟩
          · refine ⟨by unfold CDivB; omega, by unfold CDivB; decide, _, rfl, rfl, ?_, t1, by omega, t2⟩
            omega
        · rw [if_neg hlt]
          refine z root ⟨by omega, ?_, r3⟩
          have h1 : root ≤ n / root := by omega
          have h2 := Int.mul_le_mul_of_nonneg_left h1 (show 0 ≤ root by omega)
          have h3 : root * (n / root) ≤ n := Int.mul_ediv_self_le (by omega)
          omega
theorem sc_plain_ring : FnScope ["offset"] ["offset"] (defScope s_plain_ring) := ⟨rfl, rfl, rfl, by decide +kernel, rfl, by decide +kernel, by decide +kernel⟩
theorem ok_plain_ring (T : Tx K mg base) : FnOk P w K mg base CX0 2 T.a_plain_ring T.fd_plain_ring ["offset"] (spD K F_plain_ring) := by
  refine Fun.okD T.F_plain_ring sc_plain_ring mo_plain_ring (fun ds m Q h => ?_) (fun cdv A outer s H E hr => ?_)
  · unfold F_plain_ring at h; obtain ⟨n, rfl, l0, l1, z⟩ := h; rfl
  · refine ⟨_, (dss_one (ds_ret (de_fdiv (de_add (de_call mo_whole_root ((ok_whole_root T).mono (by decide : 1 ≤ 1)) hr (by rfl) T.m_whole_root T.F_whole_root.kp T.n_whole_root (da_cons (dv 0) da_nil)) de_int) de_int))), fun ds m Q h => ?_⟩
    obtain ⟨n, rfl, l0, l1, z⟩ := h
    try simp only [sSeq, sAsg, sRet, sIf, sDrop, sNext, sNever, dOp, dUn, dVar, dC, dTest, isBool, dAnd, dOr, dNot, dAndV, dOrV, dNotV, dIf, dCons, dNil, dTup, dLst, dLstM, datas, dCall, dCB, gI0, gI, gB0, g1I, gAdd, gEqD, gNeD, gIx, gIn, g1A, g2A, gInt, gLen, gTuple, gSum, gBest, dSl, dNoPart, dPart, dgName, dgTup, dgCons, dgNil, dgSub, gSetI, dIndexT, dChain, startD, List.map_cons, List.map_nil, List.length_cons, List.length_nil, List.replicate, List.append, List.cons_append, List.nil_append, List.getElem?_cons_zero, List.getElem?_cons_succ, List.set_cons_zero, List.set_cons_succ, Option.some.injEq, Dv.d.injEq, Dv.r.injEq, PyData.tuple.injEq, PyData.list.injEq, PyData.str.injEq, PyData.int.injEq, exists_eq_left', Option.map_some, Nat.zero_add, Nat.reduceAdd, Nat.reduceSub, true_and, and_true, exists_and_left, at0, at1, at2, at3, at4, eqv_int, shaped_int, eqv_pr, shaped_pr, bes, intsD, in4, flat4, flatI, Bool.not_eq_true', decide_eq_false_iff_not, not_true_eq_false, if_true, if_false, Bool.not_true, Bool.not_false, Bool.false_eq_true, Bool.true_eq_false, Bool.or_eq_false_iff,  shaped_tn, shaped_hd, shaped_r, decide_eq_true_eq, sizeLine_eq, Nat.reduceLeDiff, Int.reduceToNat, Int.reducePow, Int.reduceMul, Int.reduceAdd, Int.reduceSub, Int.reduceNeg, Int.reduceMod, setM_same, MO.lst.injEq, setM_setM, ix0, ix1, ix2, ix3, ix4]
    refine ⟨n, rfl, l0, by omega, fun r hr => ?_⟩
    try simp only [sSeq, sAsg, sRet, sIf, sDrop, sNext, sNever, dOp, dUn, dVar, dC, dTest, isBool, dAnd, dOr, dNot, dAndV, dOrV, dNotV, dIf, dCons, dNil, dTup, dLst, dLstM, datas, dCall, dCB, gI0, gI, gB0, g1I, gAdd, gEqD, gNeD, gIx, gIn, g1A, g2A, gInt, gLen, gTuple, gSum, gBest, dSl, dNoPart, dPart, dgName, dgTup, dgCons, dgNil, dgSub, gSetI, dIndexT, dChain, startD, List.map_cons, List.map_nil, List.length_cons, List.length_nil, List.replicate, List.append, List.cons_append, List.nil_append, List.getElem?_cons_zero, List.getElem?_cons_succ, List.set_cons_zero, List.set_cons_succ, Option.some.injEq, Dv.d.injEq, Dv.r.injEq, PyData.tuple.injEq, PyData.list.injEq, PyData.str.injEq, PyData.int.injEq, exists_eq_left', Option.map_some, Nat.zero_add, Nat.reduceAdd, Nat.reduceSub, true_and, and_true, exists_and_left, at0, at1, at2, at3, at4, eqv_int, shaped_int, eqv_pr, shaped_pr, bes, intsD, in4, flat4, flatI, Bool.not_eq_true', decide_eq_false_iff_not, not_true_eq_false, if_true, if_false, Bool.not_true, Bool.not_false, Bool.false_eq_true, Bool.true_eq_false, Bool.or_eq_false_iff,  shaped_tn, shaped_hd, shaped_r, decide_eq_true_eq, sizeLine_eq, Nat.reduceLeDiff, Int.reduceToNat, Int.reducePow, Int.reduceMul, Int.reduceAdd, Int.reduceSub, Int.reduceNeg, Int.reduceMod, setM_same, MO.lst.injEq, setM_setM, ix0, ix1, ix2, ix3, ix4]
    exact ⟨by unfold CDivB; decide, z r hr⟩
theorem sc_plain_place : FnScope ["offset", "ring", "past"] ["offset"] (defScope s_plain_place) := ⟨rfl, rfl, rfl, by decide +kernel, rfl, by decide +kernel, by decide +kernel⟩
theorem ok_plain_place (T : Tx K mg base) : FnOk P w K mg base CX0 3 T.a_plain_place T.fd_plain_place ["offset"] (spD K F_plain_place) := by
  refine Fun.okD T.F_plain_place sc_plain_place mo_plain_place (fun ds m Q h => ?_) (fun cdv A outer s H E hr => ?_)
  · unfold F_plain_place at h; obtain ⟨n, rfl, l0, l1, z⟩ := h; rfl
  · refine ⟨_, (dss_cons (ds_set (i := 1) sc_plain_place.nd rfl (by first | exact Or.inl rfl | exact Or.inr rfl) (de_call mo_plain_ring ((ok_plain_ring T).mono (by decide : 2 ≤ 2)) hr (by rfl) T.m_plain_ring T.F_plain_ring.kp T.n_plain_ring (da_cons (dv 0) da_nil)))
      (dss_cons (ds_set (i := 2) sc_plain_place.nd rfl (by first | exact Or.inl rfl | exact Or.inr rfl) (de_sub (dv 0) (de_mul (de_mul de_int (dv 1)) (dv 1))))
      (dss_cons (ds_if (dt_gt (dv 2) (de_mul de_int (dv 1))) (dss_one (ds_ret (de_tup (da_cons (de_sub (dv 2) (de_mul de_int (dv 1))) (da_cons (de_neg (dv 1)) da_nil))))) dss_nil)
      (dss_cons (ds_if (dt_gt (dv 2) de_int) (dss_one (ds_ret (de_tup (da_cons (de_neg (dv 1)) (da_cons (de_sub (dv 1) (dv 2)) da_nil))))) dss_nil)
      (dss_cons (ds_if (dt_gt (dv 2) (de_mul (de_neg de_int) (dv 1))) (dss_one (ds_ret (de_tup (da_cons (de_sub (de_neg (dv 1)) (dv 2)) (da_cons (dv 1) da_nil))))) dss_nil)
      (dss_one (ds_ret (de_tup (da_cons (dv 1) (da_cons (de_add (dv 2) (de_mul de_int (dv 1))) da_nil)))))))))), fun ds m Q h => ?_⟩
    obtain ⟨n, rfl, l0, l1, z⟩ := h
    try simp only [sSeq, sAsg, sRet, sIf, sDrop, sNext, sNever, dOp, dUn, dVar, dC, dTest, isBool, dAnd, dOr, dNot, dAndV, dOrV, dNotV, dIf, dCons, dNil, dTup, dLst, dLstM, datas, dCall, dCB, gI0, gI, gB0, g1I, gAdd, gEqD, gNeD, gIx, gIn, g1A, g2A, gInt, gLen, gTuple, gSum, gBest, dSl, dNoPart, dPart, dgName, dgTup, dgCons, dgNil, dgSub, gSetI, dIndexT, dChain, startD, List.map_cons, List.map_nil, List.length_cons, List.length_nil, List.replicate, List.append, List.cons_append, List.nil_append, List.getElem?_cons_zero, List.getElem?_cons_succ, List.set_cons_zero, List.set_cons_succ, Option.some.injEq, Dv.d.injEq, Dv.r.injEq, PyData.tuple.injEq, PyData.list.injEq, PyData.str.injEq, PyData.int.injEq, exists_eq_left', Option.map_some, Nat.zero_add, Nat.reduceAdd, Nat.reduceSub, true_and, and_true, exists_and_left, at0, at1, at2, at3, at4, eqv_int, shaped_int, eqv_pr, shaped_pr, bes, intsD, in4, flat4, flatI, Bool.not_eq_true', decide_eq_false_iff_not, not_true_eq_false, if_true, if_false, Bool.not_true, Bool.not_false, Bool.false_eq_true, Bool.true_eq_false, Bool.or_eq_false_iff,  shaped_tn, shaped_hd, shaped_r, decide_eq_true_eq, sizeLine_eq, Nat.reduceLeDiff, Int.reduceToNat, Int.reducePow, Int.reduceMul, Int.reduceAdd, Int.reduceSub, Int.reduceNeg, Int.reduceMod, setM_same, MO.lst.injEq, setM_setM, ix0, ix1, ix2, ix3, ix4]
    refine ⟨n, rfl, l0, l1, fun r hr => ?_⟩
    try simp only [sSeq, sAsg, sRet, sIf, sDrop, sNext, sNever, dOp, dUn, dVar, dC, dTest, isBool, dAnd, dOr, dNot, dAndV, dOrV, dNotV, dIf, dCons, dNil, dTup, dLst, dLstM, datas, dCall, dCB, gI0, gI, gB0, g1I, gAdd, gEqD, gNeD, gIx, gIn, g1A, g2A, gInt, gLen, gTuple, gSum, gBest, dSl, dNoPart, dPart, dgName, dgTup, dgCons, dgNil, dgSub, gSetI, dIndexT, dChain, startD, List.map_cons, List.map_nil, List.length_cons, List.length_nil, List.replicate, List.append, List.cons_append, List.nil_append, List.getElem?_cons_zero, List.getElem?_cons_succ, List.set_cons_zero, List.set_cons_succ, Option.some.injEq, Dv.d.injEq, Dv.r.injEq, PyData.tuple.injEq, PyData.list.injEq, PyData.str.injEq, PyData.int.injEq, exists_eq_left', Option.map_some, Nat.zero_add, Nat.reduceAdd, Nat.reduceSub, true_and, and_true, exists_and_left, at0, at1, at2, at3, at4, eqv_int, shaped_int, eqv_pr, shaped_pr, bes, intsD, in4, flat4, flatI, Bool.not_eq_true', decide_eq_false_iff_not, not_true_eq_false, if_true, if_false, Bool.not_true, Bool.not_false, Bool.false_eq_true, Bool.true_eq_false, Bool.or_eq_false_iff,  shaped_tn, shaped_hd, shaped_r, decide_eq_true_eq, sizeLine_eq, Nat.reduceLeDiff, Int.reduceToNat, Int.reducePow, Int.reduceMul, Int.reduceAdd, Int.reduceSub, Int.reduceNeg, Int.reduceMod, setM_same, MO.lst.injEq, setM_setM, ix0, ix1, ix2, ix3, ix4]
    have hp := pp_ok hr
    obtain ⟨k0, k1, k2, k3⟩ := ring_of_root hr
    have hz := z _ _ hp
    have kb : (r + 1) / 2 < 2 ^ 61 := by
      rcases Int.lt_or_le ((r + 1) / 2) (2 ^ 61) with h | h
      · exact h
      · exfalso
        have : 4 * 2 ^ 61 * ((r + 1) / 2) ≤ 4 * ((r + 1) / 2) * ((r + 1) / 2) := Int.mul_le_mul (by omega) (Int.le_refl _) (by omega) (by omega)
        omega
    unfold ppx ppy at hz
    generalize (r + 1) / 2 = k at *
    refine ⟨by unfold CMul; omega, by unfold CMul; omega, by unfold CMul; omega, ?_⟩
    by_cases a : n - 4 * k * k > 2 * k
    · rw [if_pos a] at *; rw [if_pos a] at hz
      exact ⟨by unfold CMul; omega, hz⟩
    · rw [if_neg a, if_neg a] at hz
      rw [if_neg a]
      by_cases b : n - 4 * k * k > 0
      · rw [if_pos b, if_pos b] at hz
        rw [if_pos b]; exact hz
      · rw [if_neg b, if_neg b] at hz
        rw [if_neg b]
        refine ⟨by unfold CMul; omega, ?_⟩
        by_cases c : n - 4 * k * k > -2 * k
        · rw [if_pos c, if_pos c] at hz
          rw [if_pos c]; exact hz
        · rw [if_neg c, if_neg c] at hz
          rw [if_neg c]; exact ⟨by unfold CMul; omega, hz⟩
theorem sc_quarters_of : FnScope ["heading"] ["heading"] (defScope s_quarters_of) := ⟨rfl, rfl, rfl, by decide +kernel, rfl, by decide +kernel, by decide +kernel⟩
theorem ok_quarters_of (T : Tx K mg base) : FnOk P w K mg base CX0 1 T.a_quarters_of T.fd_quarters_of ["heading"] (spD K F_quarters_of) := by
  refine Fun.okD T.F_quarters_of sc_quarters_of mo_quarters_of (fun ds m Q h => ?_) (fun cdv A outer s H E hr => ?_)
  · unfold F_quarters_of at h; obtain ⟨q, rfl, l, z⟩ := h; rfl
  · refine ⟨_, (dss_one (ds_ret (de_indexT (by rfl) T.m_HEADINGS T.k_HEADINGS rfl rfl T.s_HEADINGS T.a_HEADINGS_all rfl (dv 0)))), fun ds m Q h => ?_⟩
    obtain ⟨q, rfl, l, z⟩ := h
    try simp only [sSeq, sAsg, sRet, sIf, sDrop, sNext, sNever, dOp, dUn, dVar, dC, dTest, isBool, dAnd, dOr, dNot, dAndV, dOrV, dNotV, dIf, dCons, dNil, dTup, dLst, dLstM, datas, dCall, dCB, gI0, gI, gB0, g1I, gAdd, gEqD, gNeD, gIx, gIn, g1A, g2A, gInt, gLen, gTuple, gSum, gBest, dSl, dNoPart, dPart, dgName, dgTup, dgCons, dgNil, dgSub, gSetI, dIndexT, dChain, startD, List.map_cons, List.map_nil, List.length_cons, List.length_nil, List.replicate, List.append, List.cons_append, List.nil_append, List.getElem?_cons_zero, List.getElem?_cons_succ, List.set_cons_zero, List.set_cons_succ, Option.some.injEq, Dv.d.injEq, Dv.r.injEq, PyData.tuple.injEq, PyData.list.injEq, PyData.str.injEq, PyData.int.injEq, exists_eq_left', Option.map_some, Nat.zero_add, Nat.reduceAdd, Nat.reduceSub, true_and, and_true, exists_and_left, at0, at1, at2, at3, at4, eqv_int, shaped_int, eqv_pr, shaped_pr, bes, intsD, in4, flat4, flatI, Bool.not_eq_true', decide_eq_false_iff_not, not_true_eq_false, if_true, if_false, Bool.not_true, Bool.not_false, Bool.false_eq_true, Bool.true_eq_false, Bool.or_eq_false_iff,  shaped_tn, shaped_hd, shaped_r, decide_eq_true_eq, sizeLine_eq, Nat.reduceLeDiff, Int.reduceToNat, Int.reducePow, Int.reduceMul, Int.reduceAdd, Int.reduceSub, Int.reduceNeg, Int.reduceMod, setM_same, MO.lst.injEq, setM_setM, ix0, ix1, ix2, ix3, ix4]
    exact ⟨rfl, q, idx_hd l, z⟩
theorem sc_turned_left : FnScope ["place", "quarters", "along", "up"] ["place", "quarters"] (defScope s_turned_left) := ⟨rfl, rfl, rfl, by decide +kernel, rfl, by decide +kernel, by decide +kernel⟩
theorem ok_turned_left (T : Tx K mg base) : FnOk P w K mg base CX0 1 T.a_turned_left T.fd_turned_left ["place", "quarters"] (spD K F_turned_left) := by
  refine Fun.okD T.F_turned_left sc_turned_left mo_turned_left (fun ds m Q h => ?_) (fun cdv A outer s H E hr => ?_)
  · unfold F_turned_left at h; obtain ⟨x, y, q, rfl, z⟩ := h; rfl
  · refine ⟨_, (dss_cons (ds_asg (dv 0) (dg_tup (n := 2) rfl (dgs_cons (dg_name (i := 2) sc_turned_left.nd rfl (by first | exact Or.inl rfl | exact Or.inr rfl)) (dgs_cons (dg_name (i := 3) sc_turned_left.nd rfl (by first | exact Or.inl rfl | exact Or.inr rfl)) dgs_nil))))
      (dss_cons (ds_if (dt_eq hr (dv 1) de_int) (dss_one (ds_ret (de_tup (da_cons (de_neg (dv 3)) (da_cons (dv 2) da_nil))))) dss_nil)
      (dss_cons (ds_if (dt_eq hr (dv 1) de_int) (dss_one (ds_ret (de_tup (da_cons (de_neg (dv 2)) (da_cons (de_neg (dv 3)) da_nil))))) dss_nil)
      (dss_cons (ds_if (dt_eq hr (dv 1) de_int) (dss_one (ds_ret (de_tup (da_cons (dv 3) (da_cons (de_neg (dv 2)) da_nil))))) dss_nil)
      (dss_one (ds_ret (de_tup (da_cons (dv 2) (da_cons (dv 3) da_nil))))))))), fun ds m Q h => ?_⟩
    obtain ⟨x, y, q, rfl, z⟩ := h
    try simp only [sSeq, sAsg, sRet, sIf, sDrop, sNext, sNever, dOp, dUn, dVar, dC, dTest, isBool, dAnd, dOr, dNot, dAndV, dOrV, dNotV, dIf, dCons, dNil, dTup, dLst, dLstM, datas, dCall, dCB, gI0, gI, gB0, g1I, gAdd, gEqD, gNeD, gIx, gIn, g1A, g2A, gInt, gLen, gTuple, gSum, gBest, dSl, dNoPart, dPart, dgName, dgTup, dgCons, dgNil, dgSub, gSetI, dIndexT, dChain, startD, List.map_cons, List.map_nil, List.length_cons, List.length_nil, List.replicate, List.append, List.cons_append, List.nil_append, List.getElem?_cons_zero, List.getElem?_cons_succ, List.set_cons_zero, List.set_cons_succ, Option.some.injEq, Dv.d.injEq, Dv.r.injEq, PyData.tuple.injEq, PyData.list.injEq, PyData.str.injEq, PyData.int.injEq, exists_eq_left', Option.map_some, Nat.zero_add, Nat.reduceAdd, Nat.reduceSub, true_and, and_true, exists_and_left, at0, at1, at2, at3, at4, eqv_int, shaped_int, eqv_pr, shaped_pr, bes, intsD, in4, flat4, flatI, Bool.not_eq_true', decide_eq_false_iff_not, not_true_eq_false, if_true, if_false, Bool.not_true, Bool.not_false, Bool.false_eq_true, Bool.true_eq_false, Bool.or_eq_false_iff,  shaped_tn, shaped_hd, shaped_r, decide_eq_true_eq, sizeLine_eq, Nat.reduceLeDiff, Int.reduceToNat, Int.reducePow, Int.reduceMul, Int.reduceAdd, Int.reduceSub, Int.reduceNeg, Int.reduceMod, setM_same, MO.lst.injEq, setM_setM, ix0, ix1, ix2, ix3, ix4]
    unfold rotx roty at z
    by_cases h1 : q = 1
    · subst h1; rw [if_pos (by rfl)]; exact z
    · rw [if_neg (by omega)]
      rw [if_neg h1, if_neg h1] at z
      by_cases h2 : q = 2
      · subst h2; rw [if_pos (by rfl)]; exact z
      · rw [if_neg (by omega)]
        rw [if_neg h2, if_neg h2] at z
        by_cases h3 : q = 3
        · subst h3; rw [if_pos (by rfl)]; exact z
        · rw [if_neg (by omega)]
          rw [if_neg h3, if_neg h3] at z
          exact z
theorem sc_mirrored_by : FnScope ["turn", "place", "along", "up"] ["turn", "place"] (defScope s_mirrored_by) := ⟨rfl, rfl, rfl, by decide +kernel, rfl, by decide +kernel, by decide +kernel⟩
theorem ok_mirrored_by (T : Tx K mg base) : FnOk P w K mg base CX0 1 T.a_mirrored_by T.fd_mirrored_by ["turn", "place"] (spD K F_mirrored_by) := by
  refine Fun.okD T.F_mirrored_by sc_mirrored_by mo_mirrored_by (fun ds m Q h => ?_) (fun cdv A outer s H E hr => ?_)
  · unfold F_mirrored_by at h; obtain ⟨r, x, y, rfl, z⟩ := h; rfl
  · refine ⟨_, (dss_cons (ds_asg (dv 1) (dg_tup (n := 2) rfl (dgs_cons (dg_name (i := 2) sc_mirrored_by.nd rfl (by first | exact Or.inl rfl | exact Or.inr rfl)) (dgs_cons (dg_name (i := 3) sc_mirrored_by.nd rfl (by first | exact Or.inl rfl | exact Or.inr rfl)) dgs_nil))))
      (dss_cons (ds_if (dt_eq hr (dv 0) de_str) (dss_one (ds_ret (de_tup (da_cons (dv 2) (da_cons (de_neg (dv 3)) da_nil))))) dss_nil)
      (dss_one (ds_ret (de_tup (da_cons (dv 2) (da_cons (dv 3) da_nil))))))), fun ds m Q h => ?_⟩
    obtain ⟨r, x, y, rfl, z⟩ := h
    try simp only [sSeq, sAsg, sRet, sIf, sDrop, sNext, sNever, dOp, dUn, dVar, dC, dTest, isBool, dAnd, dOr, dNot, dAndV, dOrV, dNotV, dIf, dCons, dNil, dTup, dLst, dLstM, datas, dCall, dCB, gI0, gI, gB0, g1I, gAdd, gEqD, gNeD, gIx, gIn, g1A, g2A, gInt, gLen, gTuple, gSum, gBest, dSl, dNoPart, dPart, dgName, dgTup, dgCons, dgNil, dgSub, gSetI, dIndexT, dChain, startD, List.map_cons, List.map_nil, List.length_cons, List.length_nil, List.replicate, List.append, List.cons_append, List.nil_append, List.getElem?_cons_zero, List.getElem?_cons_succ, List.set_cons_zero, List.set_cons_succ, Option.some.injEq, Dv.d.injEq, Dv.r.injEq, PyData.tuple.injEq, PyData.list.injEq, PyData.str.injEq, PyData.int.injEq, exists_eq_left', Option.map_some, Nat.zero_add, Nat.reduceAdd, Nat.reduceSub, true_and, and_true, exists_and_left, at0, at1, at2, at3, at4, eqv_int, shaped_int, eqv_pr, shaped_pr, bes, intsD, in4, flat4, flatI, Bool.not_eq_true', decide_eq_false_iff_not, not_true_eq_false, if_true, if_false, Bool.not_true, Bool.not_false, Bool.false_eq_true, Bool.true_eq_false, Bool.or_eq_false_iff,  shaped_tn, shaped_hd, shaped_r, decide_eq_true_eq, sizeLine_eq, Nat.reduceLeDiff, Int.reduceToNat, Int.reducePow, Int.reduceMul, Int.reduceAdd, Int.reduceSub, Int.reduceNeg, Int.reduceMod, setM_same, MO.lst.injEq, setM_setM, ix0, ix1, ix2, ix3, ix4]
    rw [eqv_tn]
    unfold mir at z
    cases r <;> exact z
theorem sc_from_plain : FnScope ["spiral", "place", "start", "heading", "turn"] ["spiral", "place"] (defScope s_from_plain) := ⟨rfl, rfl, rfl, by decide +kernel, rfl, by decide +kernel, by decide +kernel⟩
theorem ok_from_plain (T : Tx K mg base) : FnOk P w K mg base CX0 2 T.a_from_plain T.fd_from_plain ["spiral", "place"] (spD K F_from_plain) := by
  refine Fun.okD T.F_from_plain sc_from_plain mo_from_plain (fun ds m Q h => ?_) (fun cdv A outer s H E hr => ?_)
  · unfold F_from_plain at h; obtain ⟨s, q, r, x, y, rfl, l, z⟩ := h; rfl
  · refine ⟨_, (dss_cons (ds_asg (dv 0) (dg_tup (n := 3) rfl (dgs_cons (dg_name (i := 2) sc_from_plain.nd rfl (by first | exact Or.inl rfl | exact Or.inr rfl)) (dgs_cons (dg_name (i := 3) sc_from_plain.nd rfl (by first | exact Or.inl rfl | exact Or.inr rfl)) (dgs_cons (dg_name (i := 4) sc_from_plain.nd rfl (by first | exact Or.inl rfl | exact Or.inr rfl)) dgs_nil)))))
      (dss_one (ds_ret (de_call mo_turned_left ((ok_turned_left T).mono (by decide : 1 ≤ 1)) hr (by rfl) T.m_turned_left T.F_turned_left.kp T.n_turned_left (da_cons (de_call mo_mirrored_by ((ok_mirrored_by T).mono (by decide : 1 ≤ 1)) hr (by rfl) T.m_mirrored_by T.F_mirrored_by.kp T.n_mirrored_by (da_cons (dv 4) (da_cons (dv 1) da_nil))) (da_cons (de_call mo_quarters_of ((ok_quarters_of T).mono (by decide : 1 ≤ 1)) hr (by rfl) T.m_quarters_of T.F_quarters_of.kp T.n_quarters_of (da_cons (dv 3) da_nil)) da_nil)))))), fun ds m Q h => ?_⟩
    obtain ⟨s, q, r, x, y, rfl, l, z⟩ := h
    try simp only [sSeq, sAsg, sRet, sIf, sDrop, sNext, sNever, dOp, dUn, dVar, dC, dTest, isBool, dAnd, dOr, dNot, dAndV, dOrV, dNotV, dIf, dCons, dNil, dTup, dLst, dLstM, datas, dCall, dCB, gI0, gI, gB0, g1I, gAdd, gEqD, gNeD, gIx, gIn, g1A, g2A, gInt, gLen, gTuple, gSum, gBest, dSl, dNoPart, dPart, dgName, dgTup, dgCons, dgNil, dgSub, gSetI, dIndexT, dChain, startD, List.map_cons, List.map_nil, List.length_cons, List.length_nil, List.replicate, List.append, List.cons_append, List.nil_append, List.getElem?_cons_zero, List.getElem?_cons_succ, List.set_cons_zero, List.set_cons_succ, Option.some.injEq, Dv.d.injEq, Dv.r.injEq, PyData.tuple.injEq, PyData.list.injEq, PyData.str.injEq, PyData.int.injEq, exists_eq_left', Option.map_some, Nat.zero_add, Nat.reduceAdd, Nat.reduceSub, true_and, and_true, exists_and_left, at0, at1, at2, at3, at4, eqv_int, shaped_int, eqv_pr, shaped_pr, bes, intsD, in4, flat4, flatI, Bool.not_eq_true', decide_eq_false_iff_not, not_true_eq_false, if_true, if_false, Bool.not_true, Bool.not_false, Bool.false_eq_true, Bool.true_eq_false, Bool.or_eq_false_iff,  shaped_tn, shaped_hd, shaped_r, decide_eq_true_eq, sizeLine_eq, Nat.reduceLeDiff, Int.reduceToNat, Int.reducePow, Int.reduceMul, Int.reduceAdd, Int.reduceSub, Int.reduceNeg, Int.reduceMod, setM_same, MO.lst.injEq, setM_setM, ix0, ix1, ix2, ix3, ix4]
    refine ⟨r, x, y, rfl, ⟨q, rfl, l, ?_⟩⟩
    exact ⟨x, mir r y, q, rfl, z⟩
theorem sc_place_of : FnScope ["spiral", "number"] ["spiral", "number"] (defScope s_place_of) := ⟨rfl, rfl, rfl, by decide +kernel, rfl, by decide +kernel, by decide +kernel⟩
theorem ok_place_of (T : Tx K mg base) : FnOk P w K mg base CX0 4 T.a_place_of T.fd_place_of ["spiral", "number"] (spD K F_place_of) := by
  refine Fun.okD T.F_place_of sc_place_of mo_place_of (fun ds m Q h => ?_) (fun cdv A outer s H E hr => ?_)
  · unfold F_place_of at h; obtain ⟨s, q, r, n, rfl, l, b, z⟩ := h; rfl
  · refine ⟨_, (dss_one (ds_ret (de_call mo_from_plain ((ok_from_plain T).mono (by decide : 2 ≤ 3)) hr (by rfl) T.m_from_plain T.F_from_plain.kp T.n_from_plain (da_cons (dv 0) (da_cons (de_call mo_plain_place ((ok_plain_place T).mono (by decide : 3 ≤ 3)) hr (by rfl) T.m_plain_place T.F_plain_place.kp T.n_plain_place (da_cons (de_call mo_offset_of ((ok_offset_of T).mono (by decide : 1 ≤ 3)) hr (by rfl) T.m_offset_of T.F_offset_of.kp T.n_offset_of (da_cons (dv 0) (da_cons (dv 1) da_nil))) da_nil)) da_nil))))), fun ds m Q h => ?_⟩
    obtain ⟨s, q, r, n, rfl, l, b, z⟩ := h
    try simp only [sSeq, sAsg, sRet, sIf, sDrop, sNext, sNever, dOp, dUn, dVar, dC, dTest, isBool, dAnd, dOr, dNot, dAndV, dOrV, dNotV, dIf, dCons, dNil, dTup, dLst, dLstM, datas, dCall, dCB, gI0, gI, gB0, g1I, gAdd, gEqD, gNeD, gIx, gIn, g1A, g2A, gInt, gLen, gTuple, gSum, gBest, dSl, dNoPart, dPart, dgName, dgTup, dgCons, dgNil, dgSub, gSetI, dIndexT, dChain, startD, List.map_cons, List.map_nil, List.length_cons, List.length_nil, List.replicate, List.append, List.cons_append, List.nil_append, List.getElem?_cons_zero, List.getElem?_cons_succ, List.set_cons_zero, List.set_cons_succ, Option.some.injEq, Dv.d.injEq, Dv.r.injEq, PyData.tuple.injEq, PyData.list.injEq, PyData.str.injEq, PyData.int.injEq, exists_eq_left', Option.map_some, Nat.zero_add, Nat.reduceAdd, Nat.reduceSub, true_and, and_true, exists_and_left, at0, at1, at2, at3, at4, eqv_int, shaped_int, eqv_pr, shaped_pr, bes, intsD, in4, flat4, flatI, Bool.not_eq_true', decide_eq_false_iff_not, not_true_eq_false, if_true, if_false, Bool.not_true, Bool.not_false, Bool.false_eq_true, Bool.true_eq_false, Bool.or_eq_false_iff,  shaped_tn, shaped_hd, shaped_r, decide_eq_true_eq, sizeLine_eq, Nat.reduceLeDiff, Int.reduceToNat, Int.reducePow, Int.reduceMul, Int.reduceAdd, Int.reduceSub, Int.reduceNeg, Int.reduceMod, setM_same, MO.lst.injEq, setM_setM, ix0, ix1, ix2, ix3, ix4]
    refine ⟨s, q, r, n, rfl, b.1, n - s, rfl, by omega, b.2, fun u v huv => ?_⟩
    refine ⟨s, q, r, u, v, rfl, l, z _ _ ?_⟩
    rw [at_fp l]; exact huv
theorem sc_plain_offset : FnScope ["place", "along", "up", "ring", "square"] ["place"] (defScope s_plain_offset) := ⟨rfl, rfl, rfl, by decide +kernel, rfl, by decide +kernel, by decide +kernel⟩
theorem ok_plain_offset (T : Tx K mg base) : FnOk P w K mg base CX0 1 T.a_plain_offset T.fd_plain_offset ["place"] (spD K F_plain_offset) := by
  refine Fun.okD T.F_plain_offset sc_plain_offset mo_plain_offset (fun ds m Q h => ?_) (fun cdv A outer s H E hr => ?_)
  · unfold F_plain_offset at h; obtain ⟨x, y, rfl, l, z⟩ := h; rfl
  · refine ⟨_, (dss_cons (ds_asg (dv 0) (dg_tup (n := 2) rfl (dgs_cons (dg_name (i := 1) sc_plain_offset.nd rfl (by first | exact Or.inl rfl | exact Or.inr rfl)) (dgs_cons (dg_name (i := 2) sc_plain_offset.nd rfl (by first | exact Or.inl rfl | exact Or.inr rfl)) dgs_nil))))
      (dss_cons (ds_set (i := 3) sc_plain_offset.nd rfl (by first | exact Or.inl rfl | exact Or.inr rfl) (de_max2 rfl (by rfl) T.b_max (da_cons (de_abs (by rfl) T.b_abs (da_cons (dv 1) da_nil)) (da_cons (de_abs (by rfl) T.b_abs (da_cons (dv 2) da_nil)) da_nil))))
      (dss_cons (ds_set (i := 4) sc_plain_offset.nd rfl (by first | exact Or.inl rfl | exact Or.inr rfl) (de_mul (de_mul de_int (dv 3)) (dv 3)))
      (dss_cons (ds_if (dt_eq hr (dv 2) (de_neg (dv 3))) (dss_one (ds_ret (de_add (de_add (dv 4) (de_mul de_int (dv 3))) (dv 1)))) dss_nil)
      (dss_cons (ds_if (dt_eq hr (dv 1) (de_neg (dv 3))) (dss_one (ds_ret (de_sub (de_add (dv 4) (dv 3)) (dv 2)))) dss_nil)
      (dss_cons (ds_if (dt_eq hr (dv 2) (dv 3)) (dss_one (ds_ret (de_sub (de_sub (dv 4) (dv 3)) (dv 1)))) dss_nil)
      (dss_one (ds_ret (de_add (de_sub (dv 4) (de_mul de_int (dv 3))) (dv 2)))))))))), fun ds m Q h => ?_⟩
    obtain ⟨x, y, rfl, l, z⟩ := h
    try simp only [sSeq, sAsg, sRet, sIf, sDrop, sNext, sNever, dOp, dUn, dVar, dC, dTest, isBool, dAnd, dOr, dNot, dAndV, dOrV, dNotV, dIf, dCons, dNil, dTup, dLst, dLstM, datas, dCall, dCB, gI0, gI, gB0, g1I, gAdd, gEqD, gNeD, gIx, gIn, g1A, g2A, gInt, gLen, gTuple, gSum, gBest, dSl, dNoPart, dPart, dgName, dgTup, dgCons, dgNil, dgSub, gSetI, dIndexT, dChain, startD, List.map_cons, List.map_nil, List.length_cons, List.length_nil, List.replicate, List.append, List.cons_append, List.nil_append, List.getElem?_cons_zero, List.getElem?_cons_succ, List.set_cons_zero, List.set_cons_succ, Option.some.injEq, Dv.d.injEq, Dv.r.injEq, PyData.tuple.injEq, PyData.list.injEq, PyData.str.injEq, PyData.int.injEq, exists_eq_left', Option.map_some, Nat.zero_add, Nat.reduceAdd, Nat.reduceSub, true_and, and_true, exists_and_left, at0, at1, at2, at3, at4, eqv_int, shaped_int, eqv_pr, shaped_pr, bes, intsD, in4, flat4, flatI, Bool.not_eq_true', decide_eq_false_iff_not, not_true_eq_false, if_true, if_false, Bool.not_true, Bool.not_false, Bool.false_eq_true, Bool.true_eq_false, Bool.or_eq_false_iff,  shaped_tn, shaped_hd, shaped_r, decide_eq_true_eq, sizeLine_eq, Nat.reduceLeDiff, Int.reduceToNat, Int.reducePow, Int.reduceMul, Int.reduceAdd, Int.reduceSub, Int.reduceNeg, Int.reduceMod, setM_same, MO.lst.injEq, setM_setM, ix0, ix1, ix2, ix3, ix4]
    have e : maxI (absI x) (absI y) = ring x y := rfl
    rw [e]
    obtain ⟨h0, h1, h2, h3, h4, h5⟩ := ring_cases x y
    unfold po at z
    generalize ring x y = k at *
    have hk : k < 2 ^ 61 := by omega
    repeat' (first | exact z | refine And.intro ?_ ?_ | (show CMul _ _; unfold CMul; omega) | (show CDivB _ _; unfold CDivB; omega) | (show CPow _ _; unfold CPow; omega) | omega | decide)
    by_cases a : y = -k
    · rw [if_pos a] at z ⊢; repeat' (first | exact z | refine And.intro ?_ ?_ | (show CMul _ _; unfold CMul; omega) | (show CDivB _ _; unfold CDivB; omega) | (show CPow _ _; unfold CPow; omega) | omega | decide)
    · rw [if_neg a] at z ⊢
      by_cases b : x = -k
      · rw [if_pos b] at z ⊢; repeat' (first | exact z | refine And.intro ?_ ?_ | (show CMul _ _; unfold CMul; omega) | (show CDivB _ _; unfold CDivB; omega) | (show CPow _ _; unfold CPow; omega) | omega | decide)
      · rw [if_neg b] at z ⊢
        by_cases c : y = k
        · rw [if_pos c] at z ⊢; repeat' (first | exact z | refine And.intro ?_ ?_ | (show CMul _ _; unfold CMul; omega) | (show CDivB _ _; unfold CDivB; omega) | (show CPow _ _; unfold CPow; omega) | omega | decide)
        · rw [if_neg c] at z ⊢; repeat' (first | exact z | refine And.intro ?_ ?_ | (show CMul _ _; unfold CMul; omega) | (show CDivB _ _; unfold CDivB; omega) | (show CPow _ _; unfold CPow; omega) | omega | decide)
theorem sc_to_plain : FnScope ["spiral", "place", "start", "heading", "turn", "back"] ["spiral", "place"] (defScope s_to_plain) := ⟨rfl, rfl, rfl, by decide +kernel, rfl, by decide +kernel, by decide +kernel⟩
theorem ok_to_plain (T : Tx K mg base) : FnOk P w K mg base CX0 2 T.a_to_plain T.fd_to_plain ["spiral", "place"] (spD K F_to_plain) := by
  refine Fun.okD T.F_to_plain sc_to_plain mo_to_plain (fun ds m Q h => ?_) (fun cdv A outer s H E hr => ?_)
  · unfold F_to_plain at h; obtain ⟨s, q, r, x, y, rfl, l, z⟩ := h; rfl
  · refine ⟨_, (dss_cons (ds_asg (dv 0) (dg_tup (n := 3) rfl (dgs_cons (dg_name (i := 2) sc_to_plain.nd rfl (by first | exact Or.inl rfl | exact Or.inr rfl)) (dgs_cons (dg_name (i := 3) sc_to_plain.nd rfl (by first | exact Or.inl rfl | exact Or.inr rfl)) (dgs_cons (dg_name (i := 4) sc_to_plain.nd rfl (by first | exact Or.inl rfl | exact Or.inr rfl)) dgs_nil)))))
      (dss_cons (ds_set (i := 5) sc_to_plain.nd rfl (by first | exact Or.inl rfl | exact Or.inr rfl) (de_mod (de_sub de_int (de_call mo_quarters_of ((ok_quarters_of T).mono (by decide : 1 ≤ 1)) hr (by rfl) T.m_quarters_of T.F_quarters_of.kp T.n_quarters_of (da_cons (dv 3) da_nil))) de_int))
      (dss_one (ds_ret (de_call mo_mirrored_by ((ok_mirrored_by T).mono (by decide : 1 ≤ 1)) hr (by rfl) T.m_mirrored_by T.F_mirrored_by.kp T.n_mirrored_by (da_cons (dv 4) (da_cons (de_call mo_turned_left ((ok_turned_left T).mono (by decide : 1 ≤ 1)) hr (by rfl) T.m_turned_left T.F_turned_left.kp T.n_turned_left (da_cons (dv 1) (da_cons (dv 5) da_nil))) da_nil))))))), fun ds m Q h => ?_⟩
    obtain ⟨s, q, r, x, y, rfl, l, z⟩ := h
    try simp only [sSeq, sAsg, sRet, sIf, sDrop, sNext, sNever, dOp, dUn, dVar, dC, dTest, isBool, dAnd, dOr, dNot, dAndV, dOrV, dNotV, dIf, dCons, dNil, dTup, dLst, dLstM, datas, dCall, dCB, gI0, gI, gB0, g1I, gAdd, gEqD, gNeD, gIx, gIn, g1A, g2A, gInt, gLen, gTuple, gSum, gBest, dSl, dNoPart, dPart, dgName, dgTup, dgCons, dgNil, dgSub, gSetI, dIndexT, dChain, startD, List.map_cons, List.map_nil, List.length_cons, List.length_nil, List.replicate, List.append, List.cons_append, List.nil_append, List.getElem?_cons_zero, List.getElem?_cons_succ, List.set_cons_zero, List.set_cons_succ, Option.some.injEq, Dv.d.injEq, Dv.r.injEq, PyData.tuple.injEq, PyData.list.injEq, PyData.str.injEq, PyData.int.injEq, exists_eq_left', Option.map_some, Nat.zero_add, Nat.reduceAdd, Nat.reduceSub, true_and, and_true, exists_and_left, at0, at1, at2, at3, at4, eqv_int, shaped_int, eqv_pr, shaped_pr, bes, intsD, in4, flat4, flatI, Bool.not_eq_true', decide_eq_false_iff_not, not_true_eq_false, if_true, if_false, Bool.not_true, Bool.not_false, Bool.false_eq_true, Bool.true_eq_false, Bool.or_eq_false_iff,  shaped_tn, shaped_hd, shaped_r, decide_eq_true_eq, sizeLine_eq, Nat.reduceLeDiff, Int.reduceToNat, Int.reducePow, Int.reduceMul, Int.reduceAdd, Int.reduceSub, Int.reduceNeg, Int.reduceMod, setM_same, MO.lst.injEq, setM_setM, ix0, ix1, ix2, ix3, ix4]
    refine ⟨q, rfl, l, ?_⟩
    try simp only [sSeq, sAsg, sRet, sIf, sDrop, sNext, sNever, dOp, dUn, dVar, dC, dTest, isBool, dAnd, dOr, dNot, dAndV, dOrV, dNotV, dIf, dCons, dNil, dTup, dLst, dLstM, datas, dCall, dCB, gI0, gI, gB0, g1I, gAdd, gEqD, gNeD, gIx, gIn, g1A, g2A, gInt, gLen, gTuple, gSum, gBest, dSl, dNoPart, dPart, dgName, dgTup, dgCons, dgNil, dgSub, gSetI, dIndexT, dChain, startD, List.map_cons, List.map_nil, List.length_cons, List.length_nil, List.replicate, List.append, List.cons_append, List.nil_append, List.getElem?_cons_zero, List.getElem?_cons_succ, List.set_cons_zero, List.set_cons_succ, Option.some.injEq, Dv.d.injEq, Dv.r.injEq, PyData.tuple.injEq, PyData.list.injEq, PyData.str.injEq, PyData.int.injEq, exists_eq_left', Option.map_some, Nat.zero_add, Nat.reduceAdd, Nat.reduceSub, true_and, and_true, exists_and_left, at0, at1, at2, at3, at4, eqv_int, shaped_int, eqv_pr, shaped_pr, bes, intsD, in4, flat4, flatI, Bool.not_eq_true', decide_eq_false_iff_not, not_true_eq_false, if_true, if_false, Bool.not_true, Bool.not_false, Bool.false_eq_true, Bool.true_eq_false, Bool.or_eq_false_iff,  shaped_tn, shaped_hd, shaped_r, decide_eq_true_eq, sizeLine_eq, Nat.reduceLeDiff, Int.reduceToNat, Int.reducePow, Int.reduceMul, Int.reduceAdd, Int.reduceSub, Int.reduceNeg, Int.reduceMod, setM_same, MO.lst.injEq, setM_setM, ix0, ix1, ix2, ix3, ix4]
    have e : ((4 - (q : Int)) % 4) = (((4 - q) % 4 : Nat) : Int) := by omega
    rw [e]
    refine ⟨by decide, x, y, (4 - q) % 4, rfl, ?_⟩
    exact ⟨r, _, _, rfl, z⟩
theorem sc_number_at : FnScope ["spiral", "place"] ["spiral", "place"] (defScope s_number_at) := ⟨rfl, rfl, rfl, by decide +kernel, rfl, by decide +kernel, by decide +kernel⟩
theorem ok_number_at (T : Tx K mg base) : FnOk P w K mg base CX0 3 T.a_number_at T.fd_number_at ["spiral", "place"] (spD K F_number_at) := by
  refine Fun.okD T.F_number_at sc_number_at mo_number_at (fun ds m Q h => ?_) (fun cdv A outer s H E hr => ?_)
  · unfold F_number_at at h; obtain ⟨s, q, r, x, y, rfl, l, b, z⟩ := h; rfl
  · refine ⟨_, (dss_one (ds_ret (de_add (de_ix (dv 0) de_int) (de_call mo_plain_offset ((ok_plain_offset T).mono (by decide : 1 ≤ 2)) hr (by rfl) T.m_plain_offset T.F_plain_offset.kp T.n_plain_offset (da_cons (de_call mo_to_plain ((ok_to_plain T).mono (by decide : 2 ≤ 2)) hr (by rfl) T.m_to_plain T.F_to_plain.kp T.n_to_plain (da_cons (dv 0) (da_cons (dv 1) da_nil))) da_nil))))), fun ds m Q h => ?_⟩
    obtain ⟨s, q, r, x, y, rfl, l, b, z⟩ := h
    try simp only [sSeq, sAsg, sRet, sIf, sDrop, sNext, sNever, dOp, dUn, dVar, dC, dTest, isBool, dAnd, dOr, dNot, dAndV, dOrV, dNotV, dIf, dCons, dNil, dTup, dLst, dLstM, datas, dCall, dCB, gI0, gI, gB0, g1I, gAdd, gEqD, gNeD, gIx, gIn, g1A, g2A, gInt, gLen, gTuple, gSum, gBest, dSl, dNoPart, dPart, dgName, dgTup, dgCons, dgNil, dgSub, gSetI, dIndexT, dChain, startD, List.map_cons, List.map_nil, List.length_cons, List.length_nil, List.replicate, List.append, List.cons_append, List.nil_append, List.getElem?_cons_zero, List.getElem?_cons_succ, List.set_cons_zero, List.set_cons_succ, Option.some.injEq, Dv.d.injEq, Dv.r.injEq, PyData.tuple.injEq, PyData.list.injEq, PyData.str.injEq, PyData.int.injEq, exists_eq_left', Option.map_some, Nat.zero_add, Nat.reduceAdd, Nat.reduceSub, true_and, and_true, exists_and_left, at0, at1, at2, at3, at4, eqv_int, shaped_int, eqv_pr, shaped_pr, bes, intsD, in4, flat4, flatI, Bool.not_eq_true', decide_eq_false_iff_not, not_true_eq_false, if_true, if_false, Bool.not_true, Bool.not_false, Bool.false_eq_true, Bool.true_eq_false, Bool.or_eq_false_iff,  shaped_tn, shaped_hd, shaped_r, decide_eq_true_eq, sizeLine_eq, Nat.reduceLeDiff, Int.reduceToNat, Int.reducePow, Int.reduceMul, Int.reduceAdd, Int.reduceSub, Int.reduceNeg, Int.reduceMod, setM_same, MO.lst.injEq, setM_setM, ix0, ix1, ix2, ix3, ix4]
    refine ⟨s, q, r, x, y, rfl, l, _, _, rfl, ?_, ?_⟩
    · obtain ⟨h1, h2⟩ := tp_bound l r x y
      omega
    · try simp only [sSeq, sAsg, sRet, sIf, sDrop, sNext, sNever, dOp, dUn, dVar, dC, dTest, isBool, dAnd, dOr, dNot, dAndV, dOrV, dNotV, dIf, dCons, dNil, dTup, dLst, dLstM, datas, dCall, dCB, gI0, gI, gB0, g1I, gAdd, gEqD, gNeD, gIx, gIn, g1A, g2A, gInt, gLen, gTuple, gSum, gBest, dSl, dNoPart, dPart, dgName, dgTup, dgCons, dgNil, dgSub, gSetI, dIndexT, dChain, startD, List.map_cons, List.map_nil, List.length_cons, List.length_nil, List.replicate, List.append, List.cons_append, List.nil_append, List.getElem?_cons_zero, List.getElem?_cons_succ, List.set_cons_zero, List.set_cons_succ, Option.some.injEq, Dv.d.injEq, Dv.r.injEq, PyData.tuple.injEq, PyData.list.injEq, PyData.str.injEq, PyData.int.injEq, exists_eq_left', Option.map_some, Nat.zero_add, Nat.reduceAdd, Nat.reduceSub, true_and, and_true, exists_and_left, at0, at1, at2, at3, at4, eqv_int, shaped_int, eqv_pr, shaped_pr, bes, intsD, in4, flat4, flatI, Bool.not_eq_true', decide_eq_false_iff_not, not_true_eq_false, if_true, if_false, Bool.not_true, Bool.not_false, Bool.false_eq_true, Bool.true_eq_false, Bool.or_eq_false_iff,  shaped_tn, shaped_hd, shaped_r, decide_eq_true_eq, sizeLine_eq, Nat.reduceLeDiff, Int.reduceToNat, Int.reducePow, Int.reduceMul, Int.reduceAdd, Int.reduceSub, Int.reduceNeg, Int.reduceMod, setM_same, MO.lst.injEq, setM_setM, ix0, ix1, ix2, ix3, ix4]
      exact z
theorem sc__law_deck : FnScope ["script"] ["script"] (defScope s__law_deck) := ⟨rfl, rfl, rfl, by decide +kernel, rfl, by decide +kernel, by decide +kernel⟩
theorem ok__law_deck (T : Tx K mg base) : FnOk P w K mg base CX0 1 T.a__law_deck T.fd__law_deck ["script"] (spD K F__law_deck) := by
  refine Fun.okD T.F__law_deck sc__law_deck mo__law_deck (fun ds m Q h => ?_) (fun cdv A outer s H E hr => ?_)
  · unfold F__law_deck at h; obtain ⟨ns, rfl, l, z⟩ := h; rfl
  · refine ⟨_, (dss_one (ds_ret (de_lstM (da_cons (de_slice (dv 0) do_none (do_some de_int)) (da_cons de_int (da_cons de_int (da_cons de_int (da_cons (de_sum rfl (by rfl) T.b_sum (da_cons (de_slice (dv 0) do_none (do_some de_int)) da_nil)) da_nil)))))))), fun ds m Q h => ?_⟩
    obtain ⟨ns, rfl, l, z⟩ := h
    try simp only [sSeq, sAsg, sRet, sIf, sDrop, sNext, sNever, dOp, dUn, dVar, dC, dTest, isBool, dAnd, dOr, dNot, dAndV, dOrV, dNotV, dIf, dCons, dNil, dTup, dLst, dLstM, datas, dCall, dCB, gI0, gI, gB0, g1I, gAdd, gEqD, gNeD, gIx, gIn, g1A, g2A, gInt, gLen, gTuple, gSum, gBest, dSl, dNoPart, dPart, dgName, dgTup, dgCons, dgNil, dgSub, gSetI, dIndexT, dChain, startD, List.map_cons, List.map_nil, List.length_cons, List.length_nil, List.replicate, List.append, List.cons_append, List.nil_append, List.getElem?_cons_zero, List.getElem?_cons_succ, List.set_cons_zero, List.set_cons_succ, Option.some.injEq, Dv.d.injEq, Dv.r.injEq, PyData.tuple.injEq, PyData.list.injEq, PyData.str.injEq, PyData.int.injEq, exists_eq_left', Option.map_some, Nat.zero_add, Nat.reduceAdd, Nat.reduceSub, true_and, and_true, exists_and_left, at0, at1, at2, at3, at4, eqv_int, shaped_int, eqv_pr, shaped_pr, bes, intsD, in4, flat4, flatI, Bool.not_eq_true', decide_eq_false_iff_not, not_true_eq_false, if_true, if_false, Bool.not_true, Bool.not_false, Bool.false_eq_true, Bool.true_eq_false, Bool.or_eq_false_iff,  shaped_tn, shaped_hd, shaped_r, decide_eq_true_eq, sizeLine_eq, Nat.reduceLeDiff, Int.reduceToNat, Int.reducePow, Int.reduceMul, Int.reduceAdd, Int.reduceSub, Int.reduceNeg, Int.reduceMod, setM_same, MO.lst.injEq, setM_setM, ix0, ix1, ix2, ix3, ix4]
    have e : cutD (List.map PyData.int ns) none (some 63) = List.map PyData.int ns := by
      unfold cutD
      simp only [HT.sIx, List.drop_zero, List.length_map, Nat.sub_zero]
      rw [if_neg (by decide)]
      exact List.take_of_length_le (by rw [List.length_map]; show ns.length ≤ min (Int.toNat 63) ns.length; have : (Int.toNat 63) = 63 := rfl; omega)
    rw [e]
    exact ⟨ns, rfl, fun p hp => z p _ hp ⟨ns, 0, 0, 0, _, rfl, l, by decide, by omega, by decide, by decide⟩⟩
theorem sc__law_mix : FnScope ["cell", "k", "number"] ["cell", "k"] (defScope s__law_mix) := ⟨rfl, rfl, rfl, by decide +kernel, rfl, by decide +kernel, by decide +kernel⟩
theorem ok__law_mix (T : Tx K mg base) : FnOk P w K mg base CX0 1 T.a__law_mix T.fd__law_mix ["cell", "k"] (spD K F__law_mix) := by
  refine Fun.okD T.F__law_mix sc__law_mix mo__law_mix (fun ds m Q h => ?_) (fun cdv A outer s H E hr => ?_)
  · unfold F__law_mix at h; obtain ⟨c, k, rfl, l, z⟩ := h; rfl
  · refine ⟨_, (dss_cons (ds_set (i := 2) sc__law_mix.nd rfl (by first | exact Or.inl rfl | exact Or.inr rfl) (de_add (de_mod (dv 0) de_int) (de_mul (de_mul de_int (dv 1)) (dv 1))))
      (dss_cons (ds_set (i := 2) sc__law_mix.nd rfl (by first | exact Or.inl rfl | exact Or.inr rfl) (de_mod (de_add (dv 2) (de_mul de_int (dv 1))) de_int))
      (dss_cons (ds_set (i := 2) sc__law_mix.nd rfl (by first | exact Or.inl rfl | exact Or.inr rfl) (de_mod (de_mul (dv 2) (dv 2)) de_int))
      (dss_one (ds_ret (de_fdiv (de_mod (de_mul (dv 2) (de_add (dv 2) de_int)) de_int) de_int)))))), fun ds m Q h => ?_⟩
    obtain ⟨c, k, rfl, l, z⟩ := h
    try simp only [sSeq, sAsg, sRet, sIf, sDrop, sNext, sNever, dOp, dUn, dVar, dC, dTest, isBool, dAnd, dOr, dNot, dAndV, dOrV, dNotV, dIf, dCons, dNil, dTup, dLst, dLstM, datas, dCall, dCB, gI0, gI, gB0, g1I, gAdd, gEqD, gNeD, gIx, gIn, g1A, g2A, gInt, gLen, gTuple, gSum, gBest, dSl, dNoPart, dPart, dgName, dgTup, dgCons, dgNil, dgSub, gSetI, dIndexT, dChain, startD, List.map_cons, List.map_nil, List.length_cons, List.length_nil, List.replicate, List.append, List.cons_append, List.nil_append, List.getElem?_cons_zero, List.getElem?_cons_succ, List.set_cons_zero, List.set_cons_succ, Option.some.injEq, Dv.d.injEq, Dv.r.injEq, PyData.tuple.injEq, PyData.list.injEq, PyData.str.injEq, PyData.int.injEq, exists_eq_left', Option.map_some, Nat.zero_add, Nat.reduceAdd, Nat.reduceSub, true_and, and_true, exists_and_left, at0, at1, at2, at3, at4, eqv_int, shaped_int, eqv_pr, shaped_pr, bes, intsD, in4, flat4, flatI, Bool.not_eq_true', decide_eq_false_iff_not, not_true_eq_false, if_true, if_false, Bool.not_true, Bool.not_false, Bool.false_eq_true, Bool.true_eq_false, Bool.or_eq_false_iff,  shaped_tn, shaped_hd, shaped_r, decide_eq_true_eq, sizeLine_eq, Nat.reduceLeDiff, Int.reduceToNat, Int.reducePow, Int.reduceMul, Int.reduceAdd, Int.reduceSub, Int.reduceNeg, Int.reduceMod, setM_same, MO.lst.injEq, setM_setM, ix0, ix1, ix2, ix3, ix4]
    have h1 : 0 ≤ (c % 2147483629 + 1000003 * k * k + 7919 * k) % 2147483629 ∧ (c % 2147483629 + 1000003 * k * k + 7919 * k) % 2147483629 < 2147483629 := ⟨Int.emod_nonneg _ (by decide), Int.emod_lt_of_pos _ (by decide)⟩
    generalize (c % 2147483629 + 1000003 * k * k + 7919 * k) % 2147483629 = u at *
    have h2 : 0 ≤ u * u % 2147483587 ∧ u * u % 2147483587 < 2147483587 := ⟨Int.emod_nonneg _ (by decide), Int.emod_lt_of_pos _ (by decide)⟩
    generalize u * u % 2147483587 = v at *
    have h3 : 0 ≤ v * (v + 40961) % 2147483563 ∧ v * (v + 40961) % 2147483563 < 2147483563 := ⟨Int.emod_nonneg _ (by decide), Int.emod_lt_of_pos _ (by decide)⟩
    have hz := z (v * (v + 40961) % 2147483563 / 4) (by omega) (by omega)
    repeat' (first | exact hz | refine And.intro ?_ ?_ | (show CMul _ _; unfold CMul; omega) | (show CDivB _ _; unfold CDivB; omega) | omega | decide)
theorem sc__law_next : FnScope ["deck", "many", "cell", "found"] ["deck", "many"] (defScope s__law_next) := ⟨rfl, rfl, rfl, by decide +kernel, rfl, by decide +kernel, by decide +kernel⟩
theorem ok__law_next (T : Tx K mg base) : FnOk P w K mg base CX0 2 T.a__law_next T.fd__law_next ["deck", "many"] (spD K F__law_next) := by
  refine Fun.okD T.F__law_next sc__law_next mo__law_next (fun ds m Q h => ?_) (fun cdv A outer s H E hr => ?_)
  · unfold F__law_next at h; obtain ⟨a, many, o, c, rfl, l, hm, hd, hc, z⟩ := h; rfl
  · refine ⟨_, (dss_cons (ds_if (DW.dt (dw_and (dt_eq hr (de_ix (dv 0) de_int) de_int) (dw_and1 (dt_lt (de_ix (dv 0) de_int) (de_len (by rfl) T.b_len (da_cons (de_ix (dv 0) de_int) da_nil)))))) (dss_cons (ds_set (i := 2) sc__law_next.nd rfl (by first | exact Or.inl rfl | exact Or.inr rfl) (de_ix (de_ix (dv 0) de_int) (de_ix (dv 0) de_int)))
      (dss_cons (ds_asg (de_add (de_ix (dv 0) de_int) de_int) (dg_sub (dv 0) de_int))
      (dss_cons (ds_if (dt_lt (dv 2) (de_pow de_int de_int)) (dss_one (ds_ret (de_mod (de_call mo__law_mix ((ok__law_mix T).mono (by decide : 1 ≤ 1)) hr (by rfl) T.m__law_mix T.F__law_mix.kp T.n__law_mix (da_cons (dv 2) (da_cons (de_ix (dv 0) de_int) da_nil))) (dv 1)))) dss_nil)
      (dss_one (ds_asg (dv 2) (dg_sub (dv 0) de_int)))))) dss_nil)
      (dss_cons (ds_if (dt_gt (de_ix (dv 0) de_int) de_int) (dss_cons (ds_set (i := 3) sc__law_next.nd rfl (by first | exact Or.inl rfl | exact Or.inr rfl) (de_mod (de_ix (dv 0) de_int) (dv 1)))
      (dss_cons (ds_asg (de_fdiv (de_ix (dv 0) de_int) (dv 1)) (dg_sub (dv 0) de_int))
      (dss_one (ds_ret (dv 3))))) dss_nil)
      (dss_cons (ds_asg (de_add (de_ix (dv 0) de_int) de_int) (dg_sub (dv 0) de_int))
      (dss_one (ds_ret (de_mod (de_call mo__law_mix ((ok__law_mix T).mono (by decide : 1 ≤ 1)) hr (by rfl) T.m__law_mix T.F__law_mix.kp T.n__law_mix (da_cons (de_ix (dv 0) de_int) (da_cons (de_add (de_ix (dv 0) de_int) de_int) da_nil))) (dv 1))))))), fun ds m Q h => ?_⟩
    obtain ⟨a, many, o, c, rfl, l, hm, hd, hc, z⟩ := h
    obtain ⟨ns, i1, i2, i3, i4, rfl, hn, h1, h1b, h3, h3b⟩ := hd
    try simp only [sSeq, sAsg, sRet, sIf, sDrop, sNext, sNever, dOp, dUn, dVar, dC, dTest, isBool, dAnd, dOr, dNot, dAndV, dOrV, dNotV, dIf, dCons, dNil, dTup, dLst, dLstM, datas, dCall, dCB, gI0, gI, gB0, g1I, gAdd, gEqD, gNeD, gIx, gIn, g1A, g2A, gInt, gLen, gTuple, gSum, gBest, dSl, dNoPart, dPart, dgName, dgTup, dgCons, dgNil, dgSub, gSetI, dIndexT, dChain, startD, List.map_cons, List.map_nil, List.length_cons, List.length_nil, List.replicate, List.append, List.cons_append, List.nil_append, List.getElem?_cons_zero, List.getElem?_cons_succ, List.set_cons_zero, List.set_cons_succ, Option.some.injEq, Dv.d.injEq, Dv.r.injEq, PyData.tuple.injEq, PyData.list.injEq, PyData.str.injEq, PyData.int.injEq, exists_eq_left', Option.map_some, Nat.zero_add, Nat.reduceAdd, Nat.reduceSub, true_and, and_true, exists_and_left, at0, at1, at2, at3, at4, eqv_int, shaped_int, eqv_pr, shaped_pr, bes, intsD, in4, flat4, flatI, Bool.not_eq_true', decide_eq_false_iff_not, not_true_eq_false, if_true, if_false, Bool.not_true, Bool.not_false, Bool.false_eq_true, Bool.true_eq_false, Bool.or_eq_false_iff,  shaped_tn, shaped_hd, shaped_r, decide_eq_true_eq, sizeLine_eq, Nat.reduceLeDiff, Int.reduceToNat, Int.reducePow, Int.reduceMul, Int.reduceAdd, Int.reduceSub, Int.reduceNeg, Int.reduceMod, setM_same, MO.lst.injEq, setM_setM, ix0, ix1, ix2, ix3, ix4]
    simp only [hm, sSeq, sAsg, sRet, sIf, sDrop, sNext, sNever, dOp, dUn, dVar, dC, dTest, isBool, dAnd, dOr, dNot, dAndV, dOrV, dNotV, dIf, dCons, dNil, dTup, dLst, dLstM, datas, dCall, dCB, gI0, gI, gB0, g1I, gAdd, gEqD, gNeD, gIx, gIn, g1A, g2A, gInt, gLen, gTuple, gSum, gBest, dSl, dNoPart, dPart, dgName, dgTup, dgCons, dgNil, dgSub, gSetI, dIndexT, dChain, startD, List.map_cons, List.map_nil, List.length_cons, List.length_nil, List.replicate, List.append, List.cons_append, List.nil_append, List.getElem?_cons_zero, List.getElem?_cons_succ, List.set_cons_zero, List.set_cons_succ, Option.some.injEq, Dv.d.injEq, Dv.r.injEq, PyData.tuple.injEq, PyData.list.injEq, PyData.str.injEq, PyData.int.injEq, exists_eq_left', Option.map_some, Nat.zero_add, Nat.reduceAdd, Nat.reduceSub, true_and, and_true, exists_and_left, at0, at1, at2, at3, at4, eqv_int, shaped_int, eqv_pr, shaped_pr, bes, intsD, in4, flat4, flatI, Bool.not_eq_true', decide_eq_false_iff_not, not_true_eq_false, if_true, if_false, Bool.not_true, Bool.not_false, Bool.false_eq_true, Bool.true_eq_false, Bool.or_eq_false_iff,  shaped_tn, shaped_hd, shaped_r, decide_eq_true_eq, sizeLine_eq, Nat.reduceLeDiff, Int.reduceToNat, Int.reducePow, Int.reduceMul, Int.reduceAdd, Int.reduceSub, Int.reduceNeg, Int.reduceMod, setM_same, MO.lst.injEq, setM_setM, ix0, ix1, ix2, ix3, ix4]
    have em : ∀ v : Int, 0 ≤ v % many ∧ v % many < many := fun v => ⟨Int.emod_nonneg _ (by omega), Int.emod_lt_of_pos _ l.1⟩
    by_cases c1 : i2 = 0
    · rw [if_pos c1]
      by_cases c2 : i1 < ((List.map PyData.int ns).length : Int)
      · rw [if_pos c2]
        rw [List.length_map] at c2
        have hlt : i1.toNat < ns.length := by omega
        have hat : atI (List.map PyData.int ns) i1 = some (.int ns[i1.toNat]) := atI_of (k := i1.toNat) (by omega) (by rw [List.getElem?_map, List.getElem?_eq_getElem hlt]; rfl)
        rw [hat]
        generalize ns[i1.toNat] = cell at *
        simp only [sSeq, sAsg, sRet, sIf, sDrop, sNext, sNever, dOp, dUn, dVar, dC, dTest, isBool, dAnd, dOr, dNot, dAndV, dOrV, dNotV, dIf, dCons, dNil, dTup, dLst, dLstM, datas, dCall, dCB, gI0, gI, gB0, g1I, gAdd, gEqD, gNeD, gIx, gIn, g1A, g2A, gInt, gLen, gTuple, gSum, gBest, dSl, dNoPart, dPart, dgName, dgTup, dgCons, dgNil, dgSub, gSetI, dIndexT, dChain, startD, List.map_cons, List.map_nil, List.length_cons, List.length_nil, List.replicate, List.append, List.cons_append, List.nil_append, List.getElem?_cons_zero, List.getElem?_cons_succ, List.set_cons_zero, List.set_cons_succ, Option.some.injEq, Dv.d.injEq, Dv.r.injEq, PyData.tuple.injEq, PyData.list.injEq, PyData.str.injEq, PyData.int.injEq, exists_eq_left', Option.map_some, Nat.zero_add, Nat.reduceAdd, Nat.reduceSub, true_and, and_true, exists_and_left, at0, at1, at2, at3, at4, eqv_int, shaped_int, eqv_pr, shaped_pr, bes, intsD, in4, flat4, flatI, Bool.not_eq_true', decide_eq_false_iff_not, not_true_eq_false, if_true, if_false, Bool.not_true, Bool.not_false, Bool.false_eq_true, Bool.true_eq_false, Bool.or_eq_false_iff,  shaped_tn, shaped_hd, shaped_r, decide_eq_true_eq, sizeLine_eq, Nat.reduceLeDiff, Int.reduceToNat, Int.reducePow, Int.reduceMul, Int.reduceAdd, Int.reduceSub, Int.reduceNeg, Int.reduceMod, setM_same, MO.lst.injEq, setM_setM, ix0, ix1, ix2, ix3, ix4]
        refine ⟨by unfold CPow; decide, ?_⟩
        by_cases c3 : cell < 1000000000000000000
        · rw [if_pos c3]
          refine ⟨cell, i1 + 1, rfl, by omega, fun r r0 r1 => ?_⟩
          exact ⟨l.1, z _ _ (em r).1 (em r).2 ⟨ns, i1 + 1, i2, i3, i4, rfl, hn, by omega, by omega, h3, by omega⟩⟩
        · rw [if_neg c3]
          by_cases h0 : 0 < cell
          · rw [if_pos h0]; exact ⟨l.1, ⟨l.1, by omega⟩, z _ _ (em _).1 (em _).2 ⟨ns, i1 + 1, _, i3, i4, rfl, hn, by omega, by omega, h3, by omega⟩⟩
          · rw [if_neg h0]; refine ⟨i4, i3 + 1 + 821, rfl, by omega, fun r r0 r1 => ?_⟩
            exact ⟨l.1, z _ _ (em r).1 (em r).2 ⟨ns, i1 + 1, _, i3 + 1, i4, rfl, hn, by omega, by omega, by omega, by omega⟩⟩
      · rw [if_neg c2]
        by_cases h0 : 0 < i2
        · rw [if_pos h0]; exact ⟨l.1, ⟨l.1, by omega⟩, z _ _ (em _).1 (em _).2 ⟨ns, i1, _, i3, i4, rfl, hn, by omega, by omega, h3, by omega⟩⟩
        · rw [if_neg h0]; refine ⟨i4, i3 + 1 + 821, rfl, by omega, fun r r0 r1 => ?_⟩
          exact ⟨l.1, z _ _ (em r).1 (em r).2 ⟨ns, i1, _, i3 + 1, i4, rfl, hn, by omega, by omega, by omega, by omega⟩⟩
    · rw [if_neg c1]
      try rw [if_neg Bool.false_ne_true]
      by_cases h0 : 0 < i2
      · rw [if_pos h0]; exact ⟨l.1, ⟨l.1, by omega⟩, z _ _ (em _).1 (em _).2 ⟨ns, i1, _, i3, i4, rfl, hn, by omega, by omega, h3, by omega⟩⟩
      · rw [if_neg h0]; refine ⟨i4, i3 + 1 + 821, rfl, by omega, fun r r0 r1 => ?_⟩
        exact ⟨l.1, z _ _ (em r).1 (em r).2 ⟨ns, i1, _, i3 + 1, i4, rfl, hn, by omega, by omega, by omega, by omega⟩⟩
theorem sc__law_great : FnScope ["deck", "most", "found", "k"] ["deck", "most"] (defScope s__law_great) := ⟨rfl, rfl, rfl, by decide +kernel, rfl, by decide +kernel, by decide +kernel⟩
theorem ok__law_great (T : Tx K mg base) : FnOk P w K mg base CX0 3 T.a__law_great T.fd__law_great ["deck", "most"] (spD K F__law_great) := by
  refine Fun.okD T.F__law_great sc__law_great mo__law_great (fun ds m Q h => ?_) (fun cdv A outer s H E hr => ?_)
  · unfold F__law_great at h; obtain ⟨a, many, o, c, rfl, l, hm, hd, hc, z⟩ := h; rfl
  · refine ⟨_, (dss_cons (ds_set (i := 2) sc__law_great.nd rfl (by first | exact Or.inl rfl | exact Or.inr rfl) de_int)
      (dss_cons (ds_for PassesOwn.never rfl (di_range1 (by rfl) T.b_range (da_cons de_int da_nil)) (dg_name (i := 3) sc__law_great.nd rfl (by first | exact Or.inl rfl | exact Or.inr rfl)) (dss_one (ds_set (i := 2) sc__law_great.nd rfl (by first | exact Or.inl rfl | exact Or.inr rfl) (de_add (de_mul (dv 2) (de_pow de_int de_int)) (de_call mo__law_next ((ok__law_next T).mono (by decide : 2 ≤ 2)) hr (by rfl) T.m__law_next T.F__law_next.kp T.n__law_next (da_cons (dv 0) (da_cons (de_pow de_int de_int) da_nil)))))))
      (dss_one (ds_ret (de_mod (dv 2) (dv 1)))))), fun ds m Q h => ?_⟩
    obtain ⟨a, many, o, c, rfl, l, hm, hd, hc, z⟩ := h
    try simp only [sSeq, sAsg, sRet, sIf, sDrop, sNext, sNever, dOp, dUn, dVar, dC, dTest, isBool, dAnd, dOr, dNot, dAndV, dOrV, dNotV, dIf, dCons, dNil, dTup, dLst, dLstM, datas, dCall, dCB, gI0, gI, gB0, g1I, gAdd, gEqD, gNeD, gIx, gIn, g1A, g2A, gInt, gLen, gTuple, gSum, gBest, dSl, dNoPart, dPart, dgName, dgTup, dgCons, dgNil, dgSub, gSetI, dIndexT, dChain, startD, List.map_cons, List.map_nil, List.length_cons, List.length_nil, List.replicate, List.append, List.cons_append, List.nil_append, List.getElem?_cons_zero, List.getElem?_cons_succ, List.set_cons_zero, List.set_cons_succ, Option.some.injEq, Dv.d.injEq, Dv.r.injEq, PyData.tuple.injEq, PyData.list.injEq, PyData.str.injEq, PyData.int.injEq, exists_eq_left', Option.map_some, Nat.zero_add, Nat.reduceAdd, Nat.reduceSub, true_and, and_true, exists_and_left, at0, at1, at2, at3, at4, eqv_int, shaped_int, eqv_pr, shaped_pr, bes, intsD, in4, flat4, flatI, Bool.not_eq_true', decide_eq_false_iff_not, not_true_eq_false, if_true, if_false, Bool.not_true, Bool.not_false, Bool.false_eq_true, Bool.true_eq_false, Bool.or_eq_false_iff,  shaped_tn, shaped_hd, shaped_r, decide_eq_true_eq, sizeLine_eq, Nat.reduceLeDiff, Int.reduceToNat, Int.reducePow, Int.reduceMul, Int.reduceAdd, Int.reduceSub, Int.reduceNeg, Int.reduceMod, setM_same, MO.lst.injEq, setM_setM, ix0, ix1, ix2, ix3, ix4]
    unfold sFor dRng1
    try simp only [sSeq, sAsg, sRet, sIf, sDrop, sNext, sNever, dOp, dUn, dVar, dC, dTest, isBool, dAnd, dOr, dNot, dAndV, dOrV, dNotV, dIf, dCons, dNil, dTup, dLst, dLstM, datas, dCall, dCB, gI0, gI, gB0, g1I, gAdd, gEqD, gNeD, gIx, gIn, g1A, g2A, gInt, gLen, gTuple, gSum, gBest, dSl, dNoPart, dPart, dgName, dgTup, dgCons, dgNil, dgSub, gSetI, dIndexT, dChain, startD, List.map_cons, List.map_nil, List.length_cons, List.length_nil, List.replicate, List.append, List.cons_append, List.nil_append, List.getElem?_cons_zero, List.getElem?_cons_succ, List.set_cons_zero, List.set_cons_succ, Option.some.injEq, Dv.d.injEq, Dv.r.injEq, PyData.tuple.injEq, PyData.list.injEq, PyData.str.injEq, PyData.int.injEq, exists_eq_left', Option.map_some, Nat.zero_add, Nat.reduceAdd, Nat.reduceSub, true_and, and_true, exists_and_left, at0, at1, at2, at3, at4, eqv_int, shaped_int, eqv_pr, shaped_pr, bes, intsD, in4, flat4, flatI, Bool.not_eq_true', decide_eq_false_iff_not, not_true_eq_false, if_true, if_false, Bool.not_true, Bool.not_false, Bool.false_eq_true, Bool.true_eq_false, Bool.or_eq_false_iff,  shaped_tn, shaped_hd, shaped_r, decide_eq_true_eq, sizeLine_eq, Nat.reduceLeDiff, Int.reduceToNat, Int.reducePow, Int.reduceMul, Int.reduceAdd, Int.reduceSub, Int.reduceNeg, Int.reduceMod, setM_same, MO.lst.injEq, setM_setM, ix0, ix1, ix2, ix3, ix4]
    refine ⟨4, rfl, by decide, fun i δ m' => ∃ (f : Int) (k : Option Dv) (o' : MO), δ = [some (.r a), some (I many), some (I f), k] ∧ m' = setM m a o' ∧ DeckIs o' (c + i) ∧ 0 ≤ f ∧ f < 10 ^ (6 * i), ⟨0, none, o, rfl, ?_, hd, by decide, by decide⟩, fun _ _ _ _ => trivial, ?_, ?_⟩
    · funext b
      by_cases e : b = a
      · subst e; rw [setM_same]; exact hm
      · rw [setM_ne e]
    · rintro i x δ m' hx ⟨f, k, o', rfl, rfl, hd', f0, f2⟩
      have hi : i < 4 := by
        have := (List.getElem?_eq_some_iff.mp hx).1
        simpa using this
      try simp only [sSeq, sAsg, sRet, sIf, sDrop, sNext, sNever, dOp, dUn, dVar, dC, dTest, isBool, dAnd, dOr, dNot, dAndV, dOrV, dNotV, dIf, dCons, dNil, dTup, dLst, dLstM, datas, dCall, dCB, gI0, gI, gB0, g1I, gAdd, gEqD, gNeD, gIx, gIn, g1A, g2A, gInt, gLen, gTuple, gSum, gBest, dSl, dNoPart, dPart, dgName, dgTup, dgCons, dgNil, dgSub, gSetI, dIndexT, dChain, startD, List.map_cons, List.map_nil, List.length_cons, List.length_nil, List.replicate, List.append, List.cons_append, List.nil_append, List.getElem?_cons_zero, List.getElem?_cons_succ, List.set_cons_zero, List.set_cons_succ, Option.some.injEq, Dv.d.injEq, Dv.r.injEq, PyData.tuple.injEq, PyData.list.injEq, PyData.str.injEq, PyData.int.injEq, exists_eq_left', Option.map_some, Nat.zero_add, Nat.reduceAdd, Nat.reduceSub, true_and, and_true, exists_and_left, at0, at1, at2, at3, at4, eqv_int, shaped_int, eqv_pr, shaped_pr, bes, intsD, in4, flat4, flatI, Bool.not_eq_true', decide_eq_false_iff_not, not_true_eq_false, if_true, if_false, Bool.not_true, Bool.not_false, Bool.false_eq_true, Bool.true_eq_false, Bool.or_eq_false_iff,  shaped_tn, shaped_hd, shaped_r, decide_eq_true_eq, sizeLine_eq, Nat.reduceLeDiff, Int.reduceToNat, Int.reducePow, Int.reduceMul, Int.reduceAdd, Int.reduceSub, Int.reduceNeg, Int.reduceMod, setM_same, MO.lst.injEq, setM_setM, ix0, ix1, ix2, ix3, ix4]
      refine ⟨by unfold CPow; decide, by unfold CMul; omega, by unfold CPow; decide, a, _, _, _, rfl, by decide, setM_same, hd', by omega, fun v o2 v0 v1 d2 => ?_⟩
      try simp only [sSeq, sAsg, sRet, sIf, sDrop, sNext, sNever, dOp, dUn, dVar, dC, dTest, isBool, dAnd, dOr, dNot, dAndV, dOrV, dNotV, dIf, dCons, dNil, dTup, dLst, dLstM, datas, dCall, dCB, gI0, gI, gB0, g1I, gAdd, gEqD, gNeD, gIx, gIn, g1A, g2A, gInt, gLen, gTuple, gSum, gBest, dSl, dNoPart, dPart, dgName, dgTup, dgCons, dgNil, dgSub, gSetI, dIndexT, dChain, startD, List.map_cons, List.map_nil, List.length_cons, List.length_nil, List.replicate, List.append, List.cons_append, List.nil_append, List.getElem?_cons_zero, List.getElem?_cons_succ, List.set_cons_zero, List.set_cons_succ, Option.some.injEq, Dv.d.injEq, Dv.r.injEq, PyData.tuple.injEq, PyData.list.injEq, PyData.str.injEq, PyData.int.injEq, exists_eq_left', Option.map_some, Nat.zero_add, Nat.reduceAdd, Nat.reduceSub, true_and, and_true, exists_and_left, at0, at1, at2, at3, at4, eqv_int, shaped_int, eqv_pr, shaped_pr, bes, intsD, in4, flat4, flatI, Bool.not_eq_true', decide_eq_false_iff_not, not_true_eq_false, if_true, if_false, Bool.not_true, Bool.not_false, Bool.false_eq_true, Bool.true_eq_false, Bool.or_eq_false_iff,  shaped_tn, shaped_hd, shaped_r, decide_eq_true_eq, sizeLine_eq, Nat.reduceLeDiff, Int.reduceToNat, Int.reducePow, Int.reduceMul, Int.reduceAdd, Int.reduceSub, Int.reduceNeg, Int.reduceMod, setM_same, MO.lst.injEq, setM_setM, ix0, ix1, ix2, ix3, ix4]
      refine ⟨_, _, rfl, o2, rfl, d2, by omega, ?_⟩
      rcases (show i = 0 ∨ i = 1 ∨ i = 2 ∨ i = 3 by omega) with rfl | rfl | rfl | rfl <;> simp only [Nat.reduceMul, Nat.reduceAdd, Int.reducePow] at * <;> omega
    · rintro δ m' ⟨f, k, o', rfl, rfl, hd', f0, f2⟩
      try simp only [sSeq, sAsg, sRet, sIf, sDrop, sNext, sNever, dOp, dUn, dVar, dC, dTest, isBool, dAnd, dOr, dNot, dAndV, dOrV, dNotV, dIf, dCons, dNil, dTup, dLst, dLstM, datas, dCall, dCB, gI0, gI, gB0, g1I, gAdd, gEqD, gNeD, gIx, gIn, g1A, g2A, gInt, gLen, gTuple, gSum, gBest, dSl, dNoPart, dPart, dgName, dgTup, dgCons, dgNil, dgSub, gSetI, dIndexT, dChain, startD, List.map_cons, List.map_nil, List.length_cons, List.length_nil, List.replicate, List.append, List.cons_append, List.nil_append, List.getElem?_cons_zero, List.getElem?_cons_succ, List.set_cons_zero, List.set_cons_succ, Option.some.injEq, Dv.d.injEq, Dv.r.injEq, PyData.tuple.injEq, PyData.list.injEq, PyData.str.injEq, PyData.int.injEq, exists_eq_left', Option.map_some, Nat.zero_add, Nat.reduceAdd, Nat.reduceSub, true_and, and_true, exists_and_left, at0, at1, at2, at3, at4, eqv_int, shaped_int, eqv_pr, shaped_pr, bes, intsD, in4, flat4, flatI, Bool.not_eq_true', decide_eq_false_iff_not, not_true_eq_false, if_true, if_false, Bool.not_true, Bool.not_false, Bool.false_eq_true, Bool.true_eq_false, Bool.or_eq_false_iff,  shaped_tn, shaped_hd, shaped_r, decide_eq_true_eq, sizeLine_eq, Nat.reduceLeDiff, Int.reduceToNat, Int.reducePow, Int.reduceMul, Int.reduceAdd, Int.reduceSub, Int.reduceNeg, Int.reduceMod, setM_same, MO.lst.injEq, setM_setM, ix0, ix1, ix2, ix3, ix4]
      exact ⟨l.1, z _ _ (Int.emod_nonneg _ (by omega)) (Int.emod_lt_of_pos _ l.1) hd'⟩
theorem sc__law_spiral : FnScope ["deck", "start"] ["deck"] (defScope s__law_spiral) := ⟨rfl, rfl, rfl, by decide +kernel, rfl, by decide +kernel, by decide +kernel⟩
theorem ok__law_spiral (T : Tx K mg base) : FnOk P w K mg base CX0 4 T.a__law_spiral T.fd__law_spiral ["deck"] (spD K F__law_spiral) := by
  refine Fun.okD T.F__law_spiral sc__law_spiral mo__law_spiral (fun ds m Q h => ?_) (fun cdv A outer s H E hr => ?_)
  · unfold F__law_spiral at h; obtain ⟨a, o, c, rfl, hm, hd, hc, z⟩ := h; rfl
  · refine ⟨_, (dss_cons (ds_set (i := 1) sc__law_spiral.nd rfl (by first | exact Or.inl rfl | exact Or.inr rfl) (de_ix (de_lst (da_cons (de_sub (de_call mo__law_next ((ok__law_next T).mono (by decide : 2 ≤ 3)) hr (by rfl) T.m__law_next T.F__law_next.kp T.n__law_next (da_cons (dv 0) (da_cons de_int da_nil))) de_int) (da_cons (de_sub (de_call mo__law_great ((ok__law_great T).mono (by decide : 3 ≤ 3)) hr (by rfl) T.m__law_great T.F__law_great.kp T.n__law_great (da_cons (dv 0) (da_cons (de_add (de_mul de_int (de_pow de_int de_int)) de_int) da_nil))) (de_pow de_int de_int)) da_nil))) (de_call mo__law_next ((ok__law_next T).mono (by decide : 2 ≤ 3)) hr (by rfl) T.m__law_next T.F__law_next.kp T.n__law_next (da_cons (dv 0) (da_cons de_int da_nil)))))
      (dss_cons (ds_set (i := 1) sc__law_spiral.nd rfl (by first | exact Or.inl rfl | exact Or.inr rfl) (de_ix (de_lst (da_cons (dv 1) (da_cons (dv 1) (da_cons de_int (da_cons de_int (da_cons (de_pow de_int de_int) (da_cons (de_sub de_int (de_pow de_int de_int)) da_nil))))))) (de_call mo__law_next ((ok__law_next T).mono (by decide : 2 ≤ 3)) hr (by rfl) T.m__law_next T.F__law_next.kp T.n__law_next (da_cons (dv 0) (da_cons de_int da_nil)))))
      (dss_one (ds_ret (de_tup (da_cons (dv 1) (da_cons (de_ix de_str (de_call mo__law_next ((ok__law_next T).mono (by decide : 2 ≤ 3)) hr (by rfl) T.m__law_next T.F__law_next.kp T.n__law_next (da_cons (dv 0) (da_cons de_int da_nil)))) (da_cons (de_ix de_str (de_call mo__law_next ((ok__law_next T).mono (by decide : 2 ≤ 3)) hr (by rfl) T.m__law_next T.F__law_next.kp T.n__law_next (da_cons (dv 0) (da_cons de_int da_nil)))) da_nil)))))))), fun ds m Q h => ?_⟩
    obtain ⟨a, o, c, rfl, hm, hd, hc, z⟩ := h
    try simp only [sSeq, sAsg, sRet, sIf, sDrop, sNext, sNever, dOp, dUn, dVar, dC, dTest, isBool, dAnd, dOr, dNot, dAndV, dOrV, dNotV, dIf, dCons, dNil, dTup, dLst, dLstM, datas, dCall, dCB, gI0, gI, gB0, g1I, gAdd, gEqD, gNeD, gIx, gIn, g1A, g2A, gInt, gLen, gTuple, gSum, gBest, dSl, dNoPart, dPart, dgName, dgTup, dgCons, dgNil, dgSub, gSetI, dIndexT, dChain, startD, List.map_cons, List.map_nil, List.length_cons, List.length_nil, List.replicate, List.append, List.cons_append, List.nil_append, List.getElem?_cons_zero, List.getElem?_cons_succ, List.set_cons_zero, List.set_cons_succ, Option.some.injEq, Dv.d.injEq, Dv.r.injEq, PyData.tuple.injEq, PyData.list.injEq, PyData.str.injEq, PyData.int.injEq, exists_eq_left', Option.map_some, Nat.zero_add, Nat.reduceAdd, Nat.reduceSub, true_and, and_true, exists_and_left, at0, at1, at2, at3, at4, eqv_int, shaped_int, eqv_pr, shaped_pr, bes, intsD, in4, flat4, flatI, Bool.not_eq_true', decide_eq_false_iff_not, not_true_eq_false, if_true, if_false, Bool.not_true, Bool.not_false, Bool.false_eq_true, Bool.true_eq_false, Bool.or_eq_false_iff,  shaped_tn, shaped_hd, shaped_r, decide_eq_true_eq, sizeLine_eq, Nat.reduceLeDiff, Int.reduceToNat, Int.reducePow, Int.reduceMul, Int.reduceAdd, Int.reduceSub, Int.reduceNeg, Int.reduceMod, setM_same, MO.lst.injEq, setM_setM, ix0, ix1, ix2, ix3, ix4]
    refine ⟨a, _, _, _, rfl, by first | decide | omega, hm, hd, by omega, fun v1 o1 l1 u1 d1 => ?_⟩
    try simp only [sSeq, sAsg, sRet, sIf, sDrop, sNext, sNever, dOp, dUn, dVar, dC, dTest, isBool, dAnd, dOr, dNot, dAndV, dOrV, dNotV, dIf, dCons, dNil, dTup, dLst, dLstM, datas, dCall, dCB, gI0, gI, gB0, g1I, gAdd, gEqD, gNeD, gIx, gIn, g1A, g2A, gInt, gLen, gTuple, gSum, gBest, dSl, dNoPart, dPart, dgName, dgTup, dgCons, dgNil, dgSub, gSetI, dIndexT, dChain, startD, List.map_cons, List.map_nil, List.length_cons, List.length_nil, List.replicate, List.append, List.cons_append, List.nil_append, List.getElem?_cons_zero, List.getElem?_cons_succ, List.set_cons_zero, List.set_cons_succ, Option.some.injEq, Dv.d.injEq, Dv.r.injEq, PyData.tuple.injEq, PyData.list.injEq, PyData.str.injEq, PyData.int.injEq, exists_eq_left', Option.map_some, Nat.zero_add, Nat.reduceAdd, Nat.reduceSub, true_and, and_true, exists_and_left, at0, at1, at2, at3, at4, eqv_int, shaped_int, eqv_pr, shaped_pr, bes, intsD, in4, flat4, flatI, Bool.not_eq_true', decide_eq_false_iff_not, not_true_eq_false, if_true, if_false, Bool.not_true, Bool.not_false, Bool.false_eq_true, Bool.true_eq_false, Bool.or_eq_false_iff,  shaped_tn, shaped_hd, shaped_r, decide_eq_true_eq, sizeLine_eq, Nat.reduceLeDiff, Int.reduceToNat, Int.reducePow, Int.reduceMul, Int.reduceAdd, Int.reduceSub, Int.reduceNeg, Int.reduceMod, setM_same, MO.lst.injEq, setM_setM, ix0, ix1, ix2, ix3, ix4]
    refine ⟨by unfold CPow; decide, by unfold CMul; decide, ?_⟩
    refine ⟨a, _, _, _, rfl, by first | decide | omega, setM_same, d1, by omega, fun v2 o2 l2 u2 d2 => ?_⟩
    try simp only [sSeq, sAsg, sRet, sIf, sDrop, sNext, sNever, dOp, dUn, dVar, dC, dTest, isBool, dAnd, dOr, dNot, dAndV, dOrV, dNotV, dIf, dCons, dNil, dTup, dLst, dLstM, datas, dCall, dCB, gI0, gI, gB0, g1I, gAdd, gEqD, gNeD, gIx, gIn, g1A, g2A, gInt, gLen, gTuple, gSum, gBest, dSl, dNoPart, dPart, dgName, dgTup, dgCons, dgNil, dgSub, gSetI, dIndexT, dChain, startD, List.map_cons, List.map_nil, List.length_cons, List.length_nil, List.replicate, List.append, List.cons_append, List.nil_append, List.getElem?_cons_zero, List.getElem?_cons_succ, List.set_cons_zero, List.set_cons_succ, Option.some.injEq, Dv.d.injEq, Dv.r.injEq, PyData.tuple.injEq, PyData.list.injEq, PyData.str.injEq, PyData.int.injEq, exists_eq_left', Option.map_some, Nat.zero_add, Nat.reduceAdd, Nat.reduceSub, true_and, and_true, exists_and_left, at0, at1, at2, at3, at4, eqv_int, shaped_int, eqv_pr, shaped_pr, bes, intsD, in4, flat4, flatI, Bool.not_eq_true', decide_eq_false_iff_not, not_true_eq_false, if_true, if_false, Bool.not_true, Bool.not_false, Bool.false_eq_true, Bool.true_eq_false, Bool.or_eq_false_iff,  shaped_tn, shaped_hd, shaped_r, decide_eq_true_eq, sizeLine_eq, Nat.reduceLeDiff, Int.reduceToNat, Int.reducePow, Int.reduceMul, Int.reduceAdd, Int.reduceSub, Int.reduceNeg, Int.reduceMod, setM_same, MO.lst.injEq, setM_setM, ix0, ix1, ix2, ix3, ix4]
    refine ⟨by unfold CPow; decide, ?_⟩
    refine ⟨a, _, _, _, rfl, by first | decide | omega, setM_same, d2, by omega, fun v3 o3 l3 u3 d3 => ?_⟩
    try simp only [sSeq, sAsg, sRet, sIf, sDrop, sNext, sNever, dOp, dUn, dVar, dC, dTest, isBool, dAnd, dOr, dNot, dAndV, dOrV, dNotV, dIf, dCons, dNil, dTup, dLst, dLstM, datas, dCall, dCB, gI0, gI, gB0, g1I, gAdd, gEqD, gNeD, gIx, gIn, g1A, g2A, gInt, gLen, gTuple, gSum, gBest, dSl, dNoPart, dPart, dgName, dgTup, dgCons, dgNil, dgSub, gSetI, dIndexT, dChain, startD, List.map_cons, List.map_nil, List.length_cons, List.length_nil, List.replicate, List.append, List.cons_append, List.nil_append, List.getElem?_cons_zero, List.getElem?_cons_succ, List.set_cons_zero, List.set_cons_succ, Option.some.injEq, Dv.d.injEq, Dv.r.injEq, PyData.tuple.injEq, PyData.list.injEq, PyData.str.injEq, PyData.int.injEq, exists_eq_left', Option.map_some, Nat.zero_add, Nat.reduceAdd, Nat.reduceSub, true_and, and_true, exists_and_left, at0, at1, at2, at3, at4, eqv_int, shaped_int, eqv_pr, shaped_pr, bes, intsD, in4, flat4, flatI, Bool.not_eq_true', decide_eq_false_iff_not, not_true_eq_false, if_true, if_false, Bool.not_true, Bool.not_false, Bool.false_eq_true, Bool.true_eq_false, Bool.or_eq_false_iff,  shaped_tn, shaped_hd, shaped_r, decide_eq_true_eq, sizeLine_eq, Nat.reduceLeDiff, Int.reduceToNat, Int.reducePow, Int.reduceMul, Int.reduceAdd, Int.reduceSub, Int.reduceNeg, Int.reduceMod, setM_same, MO.lst.injEq, setM_setM, ix0, ix1, ix2, ix3, ix4]
    obtain ⟨s1, m1, e1⟩ := at_mem (ns := [v1 - 10, v2 - 1000000000000000000]) l3 u3
    simp only [List.map_cons, List.map_nil] at e1
    rw [e1]
    try simp only [sSeq, sAsg, sRet, sIf, sDrop, sNext, sNever, dOp, dUn, dVar, dC, dTest, isBool, dAnd, dOr, dNot, dAndV, dOrV, dNotV, dIf, dCons, dNil, dTup, dLst, dLstM, datas, dCall, dCB, gI0, gI, gB0, g1I, gAdd, gEqD, gNeD, gIx, gIn, g1A, g2A, gInt, gLen, gTuple, gSum, gBest, dSl, dNoPart, dPart, dgName, dgTup, dgCons, dgNil, dgSub, gSetI, dIndexT, dChain, startD, List.map_cons, List.map_nil, List.length_cons, List.length_nil, List.replicate, List.append, List.cons_append, List.nil_append, List.getElem?_cons_zero, List.getElem?_cons_succ, List.set_cons_zero, List.set_cons_succ, Option.some.injEq, Dv.d.injEq, Dv.r.injEq, PyData.tuple.injEq, PyData.list.injEq, PyData.str.injEq, PyData.int.injEq, exists_eq_left', Option.map_some, Nat.zero_add, Nat.reduceAdd, Nat.reduceSub, true_and, and_true, exists_and_left, at0, at1, at2, at3, at4, eqv_int, shaped_int, eqv_pr, shaped_pr, bes, intsD, in4, flat4, flatI, Bool.not_eq_true', decide_eq_false_iff_not, not_true_eq_false, if_true, if_false, Bool.not_true, Bool.not_false, Bool.false_eq_true, Bool.true_eq_false, Bool.or_eq_false_iff,  shaped_tn, shaped_hd, shaped_r, decide_eq_true_eq, sizeLine_eq, Nat.reduceLeDiff, Int.reduceToNat, Int.reducePow, Int.reduceMul, Int.reduceAdd, Int.reduceSub, Int.reduceNeg, Int.reduceMod, setM_same, MO.lst.injEq, setM_setM, ix0, ix1, ix2, ix3, ix4]
    refine ⟨by unfold CPow; decide, by unfold CPow; decide, ?_⟩
    refine ⟨a, _, _, _, rfl, by first | decide | omega, setM_same, d3, by omega, fun v4 o4 l4 u4 d4 => ?_⟩
    try simp only [sSeq, sAsg, sRet, sIf, sDrop, sNext, sNever, dOp, dUn, dVar, dC, dTest, isBool, dAnd, dOr, dNot, dAndV, dOrV, dNotV, dIf, dCons, dNil, dTup, dLst, dLstM, datas, dCall, dCB, gI0, gI, gB0, g1I, gAdd, gEqD, gNeD, gIx, gIn, g1A, g2A, gInt, gLen, gTuple, gSum, gBest, dSl, dNoPart, dPart, dgName, dgTup, dgCons, dgNil, dgSub, gSetI, dIndexT, dChain, startD, List.map_cons, List.map_nil, List.length_cons, List.length_nil, List.replicate, List.append, List.cons_append, List.nil_append, List.getElem?_cons_zero, List.getElem?_cons_succ, List.set_cons_zero, List.set_cons_succ, Option.some.injEq, Dv.d.injEq, Dv.r.injEq, PyData.tuple.injEq, PyData.list.injEq, PyData.str.injEq, PyData.int.injEq, exists_eq_left', Option.map_some, Nat.zero_add, Nat.reduceAdd, Nat.reduceSub, true_and, and_true, exists_and_left, at0, at1, at2, at3, at4, eqv_int, shaped_int, eqv_pr, shaped_pr, bes, intsD, in4, flat4, flatI, Bool.not_eq_true', decide_eq_false_iff_not, not_true_eq_false, if_true, if_false, Bool.not_true, Bool.not_false, Bool.false_eq_true, Bool.true_eq_false, Bool.or_eq_false_iff,  shaped_tn, shaped_hd, shaped_r, decide_eq_true_eq, sizeLine_eq, Nat.reduceLeDiff, Int.reduceToNat, Int.reducePow, Int.reduceMul, Int.reduceAdd, Int.reduceSub, Int.reduceNeg, Int.reduceMod, setM_same, MO.lst.injEq, setM_setM, ix0, ix1, ix2, ix3, ix4]
    obtain ⟨s2, m2, e2⟩ := at_mem (ns := [s1, s1, 1, 0, 1000000000000000000, -1000000000000000000]) l4 u4
    simp only [List.map_cons, List.map_nil] at e2
    rw [e2]
    try simp only [sSeq, sAsg, sRet, sIf, sDrop, sNext, sNever, dOp, dUn, dVar, dC, dTest, isBool, dAnd, dOr, dNot, dAndV, dOrV, dNotV, dIf, dCons, dNil, dTup, dLst, dLstM, datas, dCall, dCB, gI0, gI, gB0, g1I, gAdd, gEqD, gNeD, gIx, gIn, g1A, g2A, gInt, gLen, gTuple, gSum, gBest, dSl, dNoPart, dPart, dgName, dgTup, dgCons, dgNil, dgSub, gSetI, dIndexT, dChain, startD, List.map_cons, List.map_nil, List.length_cons, List.length_nil, List.replicate, List.append, List.cons_append, List.nil_append, List.getElem?_cons_zero, List.getElem?_cons_succ, List.set_cons_zero, List.set_cons_succ, Option.some.injEq, Dv.d.injEq, Dv.r.injEq, PyData.tuple.injEq, PyData.list.injEq, PyData.str.injEq, PyData.int.injEq, exists_eq_left', Option.map_some, Nat.zero_add, Nat.reduceAdd, Nat.reduceSub, true_and, and_true, exists_and_left, at0, at1, at2, at3, at4, eqv_int, shaped_int, eqv_pr, shaped_pr, bes, intsD, in4, flat4, flatI, Bool.not_eq_true', decide_eq_false_iff_not, not_true_eq_false, if_true, if_false, Bool.not_true, Bool.not_false, Bool.false_eq_true, Bool.true_eq_false, Bool.or_eq_false_iff,  shaped_tn, shaped_hd, shaped_r, decide_eq_true_eq, sizeLine_eq, Nat.reduceLeDiff, Int.reduceToNat, Int.reducePow, Int.reduceMul, Int.reduceAdd, Int.reduceSub, Int.reduceNeg, Int.reduceMod, setM_same, MO.lst.injEq, setM_setM, ix0, ix1, ix2, ix3, ix4]
    refine ⟨a, _, _, _, rfl, by first | decide | omega, setM_same, d4, by omega, fun v5 o5 l5 u5 d5 => ?_⟩
    try simp only [sSeq, sAsg, sRet, sIf, sDrop, sNext, sNever, dOp, dUn, dVar, dC, dTest, isBool, dAnd, dOr, dNot, dAndV, dOrV, dNotV, dIf, dCons, dNil, dTup, dLst, dLstM, datas, dCall, dCB, gI0, gI, gB0, g1I, gAdd, gEqD, gNeD, gIx, gIn, g1A, g2A, gInt, gLen, gTuple, gSum, gBest, dSl, dNoPart, dPart, dgName, dgTup, dgCons, dgNil, dgSub, gSetI, dIndexT, dChain, startD, List.map_cons, List.map_nil, List.length_cons, List.length_nil, List.replicate, List.append, List.cons_append, List.nil_append, List.getElem?_cons_zero, List.getElem?_cons_succ, List.set_cons_zero, List.set_cons_succ, Option.some.injEq, Dv.d.injEq, Dv.r.injEq, PyData.tuple.injEq, PyData.list.injEq, PyData.str.injEq, PyData.int.injEq, exists_eq_left', Option.map_some, Nat.zero_add, Nat.reduceAdd, Nat.reduceSub, true_and, and_true, exists_and_left, at0, at1, at2, at3, at4, eqv_int, shaped_int, eqv_pr, shaped_pr, bes, intsD, in4, flat4, flatI, Bool.not_eq_true', decide_eq_false_iff_not, not_true_eq_false, if_true, if_false, Bool.not_true, Bool.not_false, Bool.false_eq_true, Bool.true_eq_false, Bool.or_eq_false_iff,  shaped_tn, shaped_hd, shaped_r, decide_eq_true_eq, sizeLine_eq, Nat.reduceLeDiff, Int.reduceToNat, Int.reducePow, Int.reduceMul, Int.reduceAdd, Int.reduceSub, Int.reduceNeg, Int.reduceMod, setM_same, MO.lst.injEq, setM_setM, ix0, ix1, ix2, ix3, ix4]
    obtain ⟨c5, e5, h5⟩ := hd_at l5 u5
    rw [e5]
    refine ⟨len_enws, c5, rfl, ?_⟩
    rw [h5]
    try simp only [sSeq, sAsg, sRet, sIf, sDrop, sNext, sNever, dOp, dUn, dVar, dC, dTest, isBool, dAnd, dOr, dNot, dAndV, dOrV, dNotV, dIf, dCons, dNil, dTup, dLst, dLstM, datas, dCall, dCB, gI0, gI, gB0, g1I, gAdd, gEqD, gNeD, gIx, gIn, g1A, g2A, gInt, gLen, gTuple, gSum, gBest, dSl, dNoPart, dPart, dgName, dgTup, dgCons, dgNil, dgSub, gSetI, dIndexT, dChain, startD, List.map_cons, List.map_nil, List.length_cons, List.length_nil, List.replicate, List.append, List.cons_append, List.nil_append, List.getElem?_cons_zero, List.getElem?_cons_succ, List.set_cons_zero, List.set_cons_succ, Option.some.injEq, Dv.d.injEq, Dv.r.injEq, PyData.tuple.injEq, PyData.list.injEq, PyData.str.injEq, PyData.int.injEq, exists_eq_left', Option.map_some, Nat.zero_add, Nat.reduceAdd, Nat.reduceSub, true_and, and_true, exists_and_left, at0, at1, at2, at3, at4, eqv_int, shaped_int, eqv_pr, shaped_pr, bes, intsD, in4, flat4, flatI, Bool.not_eq_true', decide_eq_false_iff_not, not_true_eq_false, if_true, if_false, Bool.not_true, Bool.not_false, Bool.false_eq_true, Bool.true_eq_false, Bool.or_eq_false_iff,  shaped_tn, shaped_hd, shaped_r, decide_eq_true_eq, sizeLine_eq, Nat.reduceLeDiff, Int.reduceToNat, Int.reducePow, Int.reduceMul, Int.reduceAdd, Int.reduceSub, Int.reduceNeg, Int.reduceMod, setM_same, MO.lst.injEq, setM_setM, ix0, ix1, ix2, ix3, ix4]
    refine ⟨a, _, _, _, rfl, by first | decide | omega, setM_same, d5, by omega, fun v6 o6 l6 u6 d6 => ?_⟩
    try simp only [sSeq, sAsg, sRet, sIf, sDrop, sNext, sNever, dOp, dUn, dVar, dC, dTest, isBool, dAnd, dOr, dNot, dAndV, dOrV, dNotV, dIf, dCons, dNil, dTup, dLst, dLstM, datas, dCall, dCB, gI0, gI, gB0, g1I, gAdd, gEqD, gNeD, gIx, gIn, g1A, g2A, gInt, gLen, gTuple, gSum, gBest, dSl, dNoPart, dPart, dgName, dgTup, dgCons, dgNil, dgSub, gSetI, dIndexT, dChain, startD, List.map_cons, List.map_nil, List.length_cons, List.length_nil, List.replicate, List.append, List.cons_append, List.nil_append, List.getElem?_cons_zero, List.getElem?_cons_succ, List.set_cons_zero, List.set_cons_succ, Option.some.injEq, Dv.d.injEq, Dv.r.injEq, PyData.tuple.injEq, PyData.list.injEq, PyData.str.injEq, PyData.int.injEq, exists_eq_left', Option.map_some, Nat.zero_add, Nat.reduceAdd, Nat.reduceSub, true_and, and_true, exists_and_left, at0, at1, at2, at3, at4, eqv_int, shaped_int, eqv_pr, shaped_pr, bes, intsD, in4, flat4, flatI, Bool.not_eq_true', decide_eq_false_iff_not, not_true_eq_false, if_true, if_false, Bool.not_true, Bool.not_false, Bool.false_eq_true, Bool.true_eq_false, Bool.or_eq_false_iff,  shaped_tn, shaped_hd, shaped_r, decide_eq_true_eq, sizeLine_eq, Nat.reduceLeDiff, Int.reduceToNat, Int.reducePow, Int.reduceMul, Int.reduceAdd, Int.reduceSub, Int.reduceNeg, Int.reduceMod, setM_same, MO.lst.injEq, setM_setM, ix0, ix1, ix2, ix3, ix4]
    obtain ⟨c6, e6, h6⟩ := tn_at l6 u6
    rw [e6]
    refine ⟨len_lr, c6, rfl, ?_⟩
    rw [h6]
    try simp only [sSeq, sAsg, sRet, sIf, sDrop, sNext, sNever, dOp, dUn, dVar, dC, dTest, isBool, dAnd, dOr, dNot, dAndV, dOrV, dNotV, dIf, dCons, dNil, dTup, dLst, dLstM, datas, dCall, dCB, gI0, gI, gB0, g1I, gAdd, gEqD, gNeD, gIx, gIn, g1A, g2A, gInt, gLen, gTuple, gSum, gBest, dSl, dNoPart, dPart, dgName, dgTup, dgCons, dgNil, dgSub, gSetI, dIndexT, dChain, startD, List.map_cons, List.map_nil, List.length_cons, List.length_nil, List.replicate, List.append, List.cons_append, List.nil_append, List.getElem?_cons_zero, List.getElem?_cons_succ, List.set_cons_zero, List.set_cons_succ, Option.some.injEq, Dv.d.injEq, Dv.r.injEq, PyData.tuple.injEq, PyData.list.injEq, PyData.str.injEq, PyData.int.injEq, exists_eq_left', Option.map_some, Nat.zero_add, Nat.reduceAdd, Nat.reduceSub, true_and, and_true, exists_and_left, at0, at1, at2, at3, at4, eqv_int, shaped_int, eqv_pr, shaped_pr, bes, intsD, in4, flat4, flatI, Bool.not_eq_true', decide_eq_false_iff_not, not_true_eq_false, if_true, if_false, Bool.not_true, Bool.not_false, Bool.false_eq_true, Bool.true_eq_false, Bool.or_eq_false_iff,  shaped_tn, shaped_hd, shaped_r, decide_eq_true_eq, sizeLine_eq, Nat.reduceLeDiff, Int.reduceToNat, Int.reducePow, Int.reduceMul, Int.reduceAdd, Int.reduceSub, Int.reduceNeg, Int.reduceMod, setM_same, MO.lst.injEq, setM_setM, ix0, ix1, ix2, ix3, ix4]
    refine z s2 _ _ _ ?_ (by omega) (d6.mono (by omega))
    simp only [List.mem_cons, List.not_mem_nil, or_false] at m1 m2
    omega
theorem sc__law_far : FnScope ["deck", "most", "root", "few", "some", "small"] ["deck", "most"] (defScope s__law_far) := ⟨rfl, rfl, rfl, by decide +kernel, rfl, by decide +kernel, by decide +kernel⟩
theorem ok__law_far (T : Tx K mg base) : FnOk P w K mg base CX0 4 T.a__law_far T.fd__law_far ["deck", "most"] (spD K F__law_far) := by
  refine Fun.okD T.F__law_far sc__law_far mo__law_far (fun ds m Q h => ?_) (fun cdv A outer s H E hr => ?_)
  · unfold F__law_far at h; obtain ⟨a, most, o, c, rfl, l, hm, hd, hc, z⟩ := h; rfl
  · refine ⟨_, (dss_cons (ds_set (i := 2) sc__law_far.nd rfl (by first | exact Or.inl rfl | exact Or.inr rfl) (de_call mo__law_great ((ok__law_great T).mono (by decide : 3 ≤ 3)) hr (by rfl) T.m__law_great T.F__law_great.kp T.n__law_great (da_cons (dv 0) (da_cons (de_pow de_int de_int) da_nil))))
      (dss_cons (ds_set (i := 3) sc__law_far.nd rfl (by first | exact Or.inl rfl | exact Or.inr rfl) (de_sub (de_call mo__law_next ((ok__law_next T).mono (by decide : 2 ≤ 3)) hr (by rfl) T.m__law_next T.F__law_next.kp T.n__law_next (da_cons (dv 0) (da_cons de_int da_nil))) de_int))
      (dss_cons (ds_set (i := 4) sc__law_far.nd rfl (by first | exact Or.inl rfl | exact Or.inr rfl) (de_lst (da_cons (de_call mo__law_next ((ok__law_next T).mono (by decide : 2 ≤ 3)) hr (by rfl) T.m__law_next T.F__law_next.kp T.n__law_next (da_cons (dv 0) (da_cons de_int da_nil))) (da_cons (de_call mo__law_great ((ok__law_great T).mono (by decide : 3 ≤ 3)) hr (by rfl) T.m__law_great T.F__law_great.kp T.n__law_great (da_cons (dv 0) (da_cons (dv 1) da_nil))) (da_cons (de_add (de_mul (dv 2) (dv 2)) (dv 3)) (da_cons (de_add (de_mul (dv 2) (de_add (dv 2) de_int)) (dv 3)) (da_cons (de_sub (dv 1) de_int) da_nil)))))))
      (dss_cons (ds_set (i := 5) sc__law_far.nd rfl (by first | exact Or.inl rfl | exact Or.inr rfl) (de_call mo__law_next ((ok__law_next T).mono (by decide : 2 ≤ 3)) hr (by rfl) T.m__law_next T.F__law_next.kp T.n__law_next (da_cons (dv 0) (da_cons de_int da_nil))))
      (dss_cons (ds_set (i := 4) sc__law_far.nd rfl (by first | exact Or.inl rfl | exact Or.inr rfl) (de_add (dv 4) (de_lst (da_cons (de_add (de_mul (dv 5) (dv 5)) (dv 3)) (da_cons (de_add (de_mul (dv 5) (de_add (dv 5) de_int)) (dv 3)) da_nil)))))
      (dss_one (ds_ret (de_min2 rfl (by rfl) T.b_min (da_cons (de_sub (dv 1) de_int) (da_cons (de_max2 rfl (by rfl) T.b_max (da_cons de_int (da_cons (de_ix (dv 4) (de_call mo__law_next ((ok__law_next T).mono (by decide : 2 ≤ 3)) hr (by rfl) T.m__law_next T.F__law_next.kp T.n__law_next (da_cons (dv 0) (da_cons de_int da_nil)))) da_nil))) da_nil)))))))))), fun ds m Q h => ?_⟩
    obtain ⟨a, most, o, c, rfl, l, hm, hd, hc, z⟩ := h
    try simp only [sSeq, sAsg, sRet, sIf, sDrop, sNext, sNever, dOp, dUn, dVar, dC, dTest, isBool, dAnd, dOr, dNot, dAndV, dOrV, dNotV, dIf, dCons, dNil, dTup, dLst, dLstM, datas, dCall, dCB, gI0, gI, gB0, g1I, gAdd, gEqD, gNeD, gIx, gIn, g1A, g2A, gInt, gLen, gTuple, gSum, gBest, dSl, dNoPart, dPart, dgName, dgTup, dgCons, dgNil, dgSub, gSetI, dIndexT, dChain, startD, List.map_cons, List.map_nil, List.length_cons, List.length_nil, List.replicate, List.append, List.cons_append, List.nil_append, List.getElem?_cons_zero, List.getElem?_cons_succ, List.set_cons_zero, List.set_cons_succ, Option.some.injEq, Dv.d.injEq, Dv.r.injEq, PyData.tuple.injEq, PyData.list.injEq, PyData.str.injEq, PyData.int.injEq, exists_eq_left', Option.map_some, Nat.zero_add, Nat.reduceAdd, Nat.reduceSub, true_and, and_true, exists_and_left, at0, at1, at2, at3, at4, eqv_int, shaped_int, eqv_pr, shaped_pr, bes, intsD, in4, flat4, flatI, Bool.not_eq_true', decide_eq_false_iff_not, not_true_eq_false, if_true, if_false, Bool.not_true, Bool.not_false, Bool.false_eq_true, Bool.true_eq_false, Bool.or_eq_false_iff,  shaped_tn, shaped_hd, shaped_r, decide_eq_true_eq, sizeLine_eq, Nat.reduceLeDiff, Int.reduceToNat, Int.reducePow, Int.reduceMul, Int.reduceAdd, Int.reduceSub, Int.reduceNeg, Int.reduceMod, setM_same, MO.lst.injEq, setM_setM, ix0, ix1, ix2, ix3, ix4]
    refine ⟨by unfold CPow; decide, ?_⟩
    refine ⟨a, _, _, _, rfl, by first | decide | omega, hm, hd, by omega, fun v1 o1 l1 u1 d1 => ?_⟩
    try simp only [sSeq, sAsg, sRet, sIf, sDrop, sNext, sNever, dOp, dUn, dVar, dC, dTest, isBool, dAnd, dOr, dNot, dAndV, dOrV, dNotV, dIf, dCons, dNil, dTup, dLst, dLstM, datas, dCall, dCB, gI0, gI, gB0, g1I, gAdd, gEqD, gNeD, gIx, gIn, g1A, g2A, gInt, gLen, gTuple, gSum, gBest, dSl, dNoPart, dPart, dgName, dgTup, dgCons, dgNil, dgSub, gSetI, dIndexT, dChain, startD, List.map_cons, List.map_nil, List.length_cons, List.length_nil, List.replicate, List.append, List.cons_append, List.nil_append, List.getElem?_cons_zero, List.getElem?_cons_succ, List.set_cons_zero, List.set_cons_succ, Option.some.injEq, Dv.d.injEq, Dv.r.injEq, PyData.tuple.injEq, PyData.list.injEq, PyData.str.injEq, PyData.int.injEq, exists_eq_left', Option.map_some, Nat.zero_add, Nat.reduceAdd, Nat.reduceSub, true_and, and_true, exists_and_left, at0, at1, at2, at3, at4, eqv_int, shaped_int, eqv_pr, shaped_pr, bes, intsD, in4, flat4, flatI, Bool.not_eq_true', decide_eq_false_iff_not, not_true_eq_false, if_true, if_false, Bool.not_true, Bool.not_false, Bool.false_eq_true, Bool.true_eq_false, Bool.or_eq_false_iff,  shaped_tn, shaped_hd, shaped_r, decide_eq_true_eq, sizeLine_eq, Nat.reduceLeDiff, Int.reduceToNat, Int.reducePow, Int.reduceMul, Int.reduceAdd, Int.reduceSub, Int.reduceNeg, Int.reduceMod, setM_same, MO.lst.injEq, setM_setM, ix0, ix1, ix2, ix3, ix4]
    refine ⟨a, _, _, _, rfl, by first | decide | omega, setM_same, d1, by omega, fun v2 o2 l2 u2 d2 => ?_⟩
    try simp only [sSeq, sAsg, sRet, sIf, sDrop, sNext, sNever, dOp, dUn, dVar, dC, dTest, isBool, dAnd, dOr, dNot, dAndV, dOrV, dNotV, dIf, dCons, dNil, dTup, dLst, dLstM, datas, dCall, dCB, gI0, gI, gB0, g1I, gAdd, gEqD, gNeD, gIx, gIn, g1A, g2A, gInt, gLen, gTuple, gSum, gBest, dSl, dNoPart, dPart, dgName, dgTup, dgCons, dgNil, dgSub, gSetI, dIndexT, dChain, startD, List.map_cons, List.map_nil, List.length_cons, List.length_nil, List.replicate, List.append, List.cons_append, List.nil_append, List.getElem?_cons_zero, List.getElem?_cons_succ, List.set_cons_zero, List.set_cons_succ, Option.some.injEq, Dv.d.injEq, Dv.r.injEq, PyData.tuple.injEq, PyData.list.injEq, PyData.str.injEq, PyData.int.injEq, exists_eq_left', Option.map_some, Nat.zero_add, Nat.reduceAdd, Nat.reduceSub, true_and, and_true, exists_and_left, at0, at1, at2, at3, at4, eqv_int, shaped_int, eqv_pr, shaped_pr, bes, intsD, in4, flat4, flatI, Bool.not_eq_true', decide_eq_false_iff_not, not_true_eq_false, if_true, if_false, Bool.not_true, Bool.not_false, Bool.false_eq_true, Bool.true_eq_false, Bool.or_eq_false_iff,  shaped_tn, shaped_hd, shaped_r, decide_eq_true_eq, sizeLine_eq, Nat.reduceLeDiff, Int.reduceToNat, Int.reducePow, Int.reduceMul, Int.reduceAdd, Int.reduceSub, Int.reduceNeg, Int.reduceMod, setM_same, MO.lst.injEq, setM_setM, ix0, ix1, ix2, ix3, ix4]
    refine ⟨a, _, _, _, rfl, by first | decide | omega, setM_same, d2, by omega, fun v3 o3 l3 u3 d3 => ?_⟩
    try simp only [sSeq, sAsg, sRet, sIf, sDrop, sNext, sNever, dOp, dUn, dVar, dC, dTest, isBool, dAnd, dOr, dNot, dAndV, dOrV, dNotV, dIf, dCons, dNil, dTup, dLst, dLstM, datas, dCall, dCB, gI0, gI, gB0, g1I, gAdd, gEqD, gNeD, gIx, gIn, g1A, g2A, gInt, gLen, gTuple, gSum, gBest, dSl, dNoPart, dPart, dgName, dgTup, dgCons, dgNil, dgSub, gSetI, dIndexT, dChain, startD, List.map_cons, List.map_nil, List.length_cons, List.length_nil, List.replicate, List.append, List.cons_append, List.nil_append, List.getElem?_cons_zero, List.getElem?_cons_succ, List.set_cons_zero, List.set_cons_succ, Option.some.injEq, Dv.d.injEq, Dv.r.injEq, PyData.tuple.injEq, PyData.list.injEq, PyData.str.injEq, PyData.int.injEq, exists_eq_left', Option.map_some, Nat.zero_add, Nat.reduceAdd, Nat.reduceSub, true_and, and_true, exists_and_left, at0, at1, at2, at3, at4, eqv_int, shaped_int, eqv_pr, shaped_pr, bes, intsD, in4, flat4, flatI, Bool.not_eq_true', decide_eq_false_iff_not, not_true_eq_false, if_true, if_false, Bool.not_true, Bool.not_false, Bool.false_eq_true, Bool.true_eq_false, Bool.or_eq_false_iff,  shaped_tn, shaped_hd, shaped_r, decide_eq_true_eq, sizeLine_eq, Nat.reduceLeDiff, Int.reduceToNat, Int.reducePow, Int.reduceMul, Int.reduceAdd, Int.reduceSub, Int.reduceNeg, Int.reduceMod, setM_same, MO.lst.injEq, setM_setM, ix0, ix1, ix2, ix3, ix4]
    refine ⟨a, _, _, _, rfl, by first | decide | omega, setM_same, d3, by omega, fun v4 o4 l4 u4 d4 => ?_⟩
    try simp only [sSeq, sAsg, sRet, sIf, sDrop, sNext, sNever, dOp, dUn, dVar, dC, dTest, isBool, dAnd, dOr, dNot, dAndV, dOrV, dNotV, dIf, dCons, dNil, dTup, dLst, dLstM, datas, dCall, dCB, gI0, gI, gB0, g1I, gAdd, gEqD, gNeD, gIx, gIn, g1A, g2A, gInt, gLen, gTuple, gSum, gBest, dSl, dNoPart, dPart, dgName, dgTup, dgCons, dgNil, dgSub, gSetI, dIndexT, dChain, startD, List.map_cons, List.map_nil, List.length_cons, List.length_nil, List.replicate, List.append, List.cons_append, List.nil_append, List.getElem?_cons_zero, List.getElem?_cons_succ, List.set_cons_zero, List.set_cons_succ, Option.some.injEq, Dv.d.injEq, Dv.r.injEq, PyData.tuple.injEq, PyData.list.injEq, PyData.str.injEq, PyData.int.injEq, exists_eq_left', Option.map_some, Nat.zero_add, Nat.reduceAdd, Nat.reduceSub, true_and, and_true, exists_and_left, at0, at1, at2, at3, at4, eqv_int, shaped_int, eqv_pr, shaped_pr, bes, intsD, in4, flat4, flatI, Bool.not_eq_true', decide_eq_false_iff_not, not_true_eq_false, if_true, if_false, Bool.not_true, Bool.not_false, Bool.false_eq_true, Bool.true_eq_false, Bool.or_eq_false_iff,  shaped_tn, shaped_hd, shaped_r, decide_eq_true_eq, sizeLine_eq, Nat.reduceLeDiff, Int.reduceToNat, Int.reducePow, Int.reduceMul, Int.reduceAdd, Int.reduceSub, Int.reduceNeg, Int.reduceMod, setM_same, MO.lst.injEq, setM_setM, ix0, ix1, ix2, ix3, ix4]
    refine ⟨by unfold CMul; omega, by unfold CMul; omega, ?_⟩
    refine ⟨a, _, _, _, rfl, by first | decide | omega, setM_same, d4, by omega, fun v5 o5 l5 u5 d5 => ?_⟩
    try simp only [sSeq, sAsg, sRet, sIf, sDrop, sNext, sNever, dOp, dUn, dVar, dC, dTest, isBool, dAnd, dOr, dNot, dAndV, dOrV, dNotV, dIf, dCons, dNil, dTup, dLst, dLstM, datas, dCall, dCB, gI0, gI, gB0, g1I, gAdd, gEqD, gNeD, gIx, gIn, g1A, g2A, gInt, gLen, gTuple, gSum, gBest, dSl, dNoPart, dPart, dgName, dgTup, dgCons, dgNil, dgSub, gSetI, dIndexT, dChain, startD, List.map_cons, List.map_nil, List.length_cons, List.length_nil, List.replicate, List.append, List.cons_append, List.nil_append, List.getElem?_cons_zero, List.getElem?_cons_succ, List.set_cons_zero, List.set_cons_succ, Option.some.injEq, Dv.d.injEq, Dv.r.injEq, PyData.tuple.injEq, PyData.list.injEq, PyData.str.injEq, PyData.int.injEq, exists_eq_left', Option.map_some, Nat.zero_add, Nat.reduceAdd, Nat.reduceSub, true_and, and_true, exists_and_left, at0, at1, at2, at3, at4, eqv_int, shaped_int, eqv_pr, shaped_pr, bes, intsD, in4, flat4, flatI, Bool.not_eq_true', decide_eq_false_iff_not, not_true_eq_false, if_true, if_false, Bool.not_true, Bool.not_false, Bool.false_eq_true, Bool.true_eq_false, Bool.or_eq_false_iff,  shaped_tn, shaped_hd, shaped_r, decide_eq_true_eq, sizeLine_eq, Nat.reduceLeDiff, Int.reduceToNat, Int.reducePow, Int.reduceMul, Int.reduceAdd, Int.reduceSub, Int.reduceNeg, Int.reduceMod, setM_same, MO.lst.injEq, setM_setM, ix0, ix1, ix2, ix3, ix4]
    refine ⟨by unfold CMul; omega, by unfold CMul; omega, ?_⟩
    refine ⟨a, _, _, _, rfl, by first | decide | omega, setM_same, d5, by omega, fun v6 o6 l6 u6 d6 => ?_⟩
    try simp only [sSeq, sAsg, sRet, sIf, sDrop, sNext, sNever, dOp, dUn, dVar, dC, dTest, isBool, dAnd, dOr, dNot, dAndV, dOrV, dNotV, dIf, dCons, dNil, dTup, dLst, dLstM, datas, dCall, dCB, gI0, gI, gB0, g1I, gAdd, gEqD, gNeD, gIx, gIn, g1A, g2A, gInt, gLen, gTuple, gSum, gBest, dSl, dNoPart, dPart, dgName, dgTup, dgCons, dgNil, dgSub, gSetI, dIndexT, dChain, startD, List.map_cons, List.map_nil, List.length_cons, List.length_nil, List.replicate, List.append, List.cons_append, List.nil_append, List.getElem?_cons_zero, List.getElem?_cons_succ, List.set_cons_zero, List.set_cons_succ, Option.some.injEq, Dv.d.injEq, Dv.r.injEq, PyData.tuple.injEq, PyData.list.injEq, PyData.str.injEq, PyData.int.injEq, exists_eq_left', Option.map_some, Nat.zero_add, Nat.reduceAdd, Nat.reduceSub, true_and, and_true, exists_and_left, at0, at1, at2, at3, at4, eqv_int, shaped_int, eqv_pr, shaped_pr, bes, intsD, in4, flat4, flatI, Bool.not_eq_true', decide_eq_false_iff_not, not_true_eq_false, if_true, if_false, Bool.not_true, Bool.not_false, Bool.false_eq_true, Bool.true_eq_false, Bool.or_eq_false_iff,  shaped_tn, shaped_hd, shaped_r, decide_eq_true_eq, sizeLine_eq, Nat.reduceLeDiff, Int.reduceToNat, Int.reducePow, Int.reduceMul, Int.reduceAdd, Int.reduceSub, Int.reduceNeg, Int.reduceMod, setM_same, MO.lst.injEq, setM_setM, ix0, ix1, ix2, ix3, ix4]
    obtain ⟨s1, m1, e1⟩ := at_mem (ns := [v3, v4, v1 * v1 + (v2 - 2), v1 * (v1 + 1) + (v2 - 2), most - 1, v5 * v5 + (v2 - 2), v5 * (v5 + 1) + (v2 - 2)]) l6 u6
    simp only [List.map_cons, List.map_nil] at e1
    rw [e1]
    try simp only [sSeq, sAsg, sRet, sIf, sDrop, sNext, sNever, dOp, dUn, dVar, dC, dTest, isBool, dAnd, dOr, dNot, dAndV, dOrV, dNotV, dIf, dCons, dNil, dTup, dLst, dLstM, datas, dCall, dCB, gI0, gI, gB0, g1I, gAdd, gEqD, gNeD, gIx, gIn, g1A, g2A, gInt, gLen, gTuple, gSum, gBest, dSl, dNoPart, dPart, dgName, dgTup, dgCons, dgNil, dgSub, gSetI, dIndexT, dChain, startD, List.map_cons, List.map_nil, List.length_cons, List.length_nil, List.replicate, List.append, List.cons_append, List.nil_append, List.getElem?_cons_zero, List.getElem?_cons_succ, List.set_cons_zero, List.set_cons_succ, Option.some.injEq, Dv.d.injEq, Dv.r.injEq, PyData.tuple.injEq, PyData.list.injEq, PyData.str.injEq, PyData.int.injEq, exists_eq_left', Option.map_some, Nat.zero_add, Nat.reduceAdd, Nat.reduceSub, true_and, and_true, exists_and_left, at0, at1, at2, at3, at4, eqv_int, shaped_int, eqv_pr, shaped_pr, bes, intsD, in4, flat4, flatI, Bool.not_eq_true', decide_eq_false_iff_not, not_true_eq_false, if_true, if_false, Bool.not_true, Bool.not_false, Bool.false_eq_true, Bool.true_eq_false, Bool.or_eq_false_iff,  shaped_tn, shaped_hd, shaped_r, decide_eq_true_eq, sizeLine_eq, Nat.reduceLeDiff, Int.reduceToNat, Int.reducePow, Int.reduceMul, Int.reduceAdd, Int.reduceSub, Int.reduceNeg, Int.reduceMod, setM_same, MO.lst.injEq, setM_setM, ix0, ix1, ix2, ix3, ix4]
    refine z _ _ ?_ ?_ (d6.mono (by omega)) <;> unfold minI maxI <;> repeat' split
    all_goals omega
theorem sc__law_any_place : FnScope ["deck", "one", "other", "near", "small", "some", "along", "up"] ["deck"] (defScope s__law_any_place) := ⟨rfl, rfl, rfl, by decide +kernel, rfl, by decide +kernel, by decide +kernel⟩
theorem ok__law_any_place (T : Tx K mg base) : FnOk P w K mg base CX0 3 T.a__law_any_place T.fd__law_any_place ["deck"] (spD K F__law_any_place) := by
  refine Fun.okD T.F__law_any_place sc__law_any_place mo__law_any_place (fun ds m Q h => ?_) (fun cdv A outer s H E hr => ?_)
  · unfold F__law_any_place at h; obtain ⟨a, o, c, rfl, hm, hd, hc, z⟩ := h; rfl
  · refine ⟨_, (dss_cons (ds_set (i := 1) sc__law_any_place.nd rfl (by first | exact Or.inl rfl | exact Or.inr rfl) (de_sub (de_call mo__law_next ((ok__law_next T).mono (by decide : 2 ≤ 2)) hr (by rfl) T.m__law_next T.F__law_next.kp T.n__law_next (da_cons (dv 0) (da_cons (de_add (de_mul de_int (de_pow de_int de_int)) de_int) da_nil))) (de_pow de_int de_int)))
      (dss_cons (ds_set (i := 2) sc__law_any_place.nd rfl (by first | exact Or.inl rfl | exact Or.inr rfl) (de_sub (de_call mo__law_next ((ok__law_next T).mono (by decide : 2 ≤ 2)) hr (by rfl) T.m__law_next T.F__law_next.kp T.n__law_next (da_cons (dv 0) (da_cons (de_add (de_mul de_int (de_pow de_int de_int)) de_int) da_nil))) (de_pow de_int de_int)))
      (dss_cons (ds_set (i := 3) sc__law_any_place.nd rfl (by first | exact Or.inl rfl | exact Or.inr rfl) (de_sub (de_call mo__law_next ((ok__law_next T).mono (by decide : 2 ≤ 2)) hr (by rfl) T.m__law_next T.F__law_next.kp T.n__law_next (da_cons (dv 0) (da_cons de_int da_nil))) de_int))
      (dss_cons (ds_set (i := 4) sc__law_any_place.nd rfl (by first | exact Or.inl rfl | exact Or.inr rfl) (de_sub (de_call mo__law_next ((ok__law_next T).mono (by decide : 2 ≤ 2)) hr (by rfl) T.m__law_next T.F__law_next.kp T.n__law_next (da_cons (dv 0) (da_cons de_int da_nil))) de_int))
      (dss_cons (ds_set (i := 5) sc__law_any_place.nd rfl (by first | exact Or.inl rfl | exact Or.inr rfl) (de_lst (da_cons (de_tup (da_cons (dv 4) (da_cons (dv 3) da_nil))) (da_cons (de_tup (da_cons (dv 1) (da_cons (dv 2) da_nil))) (da_cons (de_tup (da_cons (dv 1) (da_cons (de_add (dv 1) (dv 3)) da_nil))) (da_cons (de_tup (da_cons (dv 1) (da_cons (de_add (de_sub de_int (dv 1)) (dv 3)) da_nil))) (da_cons (de_tup (da_cons (dv 1) (da_cons de_int da_nil))) (da_cons (de_tup (da_cons de_int (da_cons (dv 1) da_nil))) da_nil))))))))
      (dss_cons (ds_set (i := 5) sc__law_any_place.nd rfl (by first | exact Or.inl rfl | exact Or.inr rfl) (de_add (dv 5) (de_lst (da_cons (de_tup (da_cons (dv 4) (da_cons (de_add (dv 4) (dv 3)) da_nil))) (da_cons (de_tup (da_cons (dv 4) (da_cons (de_add (de_sub de_int (dv 4)) (dv 3)) da_nil))) da_nil)))))
      (dss_cons (ds_asg (de_ix (dv 5) (de_call mo__law_next ((ok__law_next T).mono (by decide : 2 ≤ 2)) hr (by rfl) T.m__law_next T.F__law_next.kp T.n__law_next (da_cons (dv 0) (da_cons de_int da_nil)))) (dg_tup (n := 2) rfl (dgs_cons (dg_name (i := 6) sc__law_any_place.nd rfl (by first | exact Or.inl rfl | exact Or.inr rfl)) (dgs_cons (dg_name (i := 7) sc__law_any_place.nd rfl (by first | exact Or.inl rfl | exact Or.inr rfl)) dgs_nil))))
      (dss_one (ds_ret (de_tup (da_cons (de_min2 rfl (by rfl) T.b_min (da_cons (de_pow de_int de_int) (da_cons (de_max2 rfl (by rfl) T.b_max (da_cons (de_sub de_int (de_pow de_int de_int)) (da_cons (dv 6) da_nil))) da_nil))) (da_cons (de_min2 rfl (by rfl) T.b_min (da_cons (de_pow de_int de_int) (da_cons (de_max2 rfl (by rfl) T.b_max (da_cons (de_sub de_int (de_pow de_int de_int)) (da_cons (dv 7) da_nil))) da_nil))) da_nil)))))))))))), fun ds m Q h => ?_⟩
    obtain ⟨a, o, c, rfl, hm, hd, hc, z⟩ := h
    try simp only [sSeq, sAsg, sRet, sIf, sDrop, sNext, sNever, dOp, dUn, dVar, dC, dTest, isBool, dAnd, dOr, dNot, dAndV, dOrV, dNotV, dIf, dCons, dNil, dTup, dLst, dLstM, datas, dCall, dCB, gI0, gI, gB0, g1I, gAdd, gEqD, gNeD, gIx, gIn, g1A, g2A, gInt, gLen, gTuple, gSum, gBest, dSl, dNoPart, dPart, dgName, dgTup, dgCons, dgNil, dgSub, gSetI, dIndexT, dChain, startD, List.map_cons, List.map_nil, List.length_cons, List.length_nil, List.replicate, List.append, List.cons_append, List.nil_append, List.getElem?_cons_zero, List.getElem?_cons_succ, List.set_cons_zero, List.set_cons_succ, Option.some.injEq, Dv.d.injEq, Dv.r.injEq, PyData.tuple.injEq, PyData.list.injEq, PyData.str.injEq, PyData.int.injEq, exists_eq_left', Option.map_some, Nat.zero_add, Nat.reduceAdd, Nat.reduceSub, true_and, and_true, exists_and_left, at0, at1, at2, at3, at4, eqv_int, shaped_int, eqv_pr, shaped_pr, bes, intsD, in4, flat4, flatI, Bool.not_eq_true', decide_eq_false_iff_not, not_true_eq_false, if_true, if_false, Bool.not_true, Bool.not_false, Bool.false_eq_true, Bool.true_eq_false, Bool.or_eq_false_iff,  shaped_tn, shaped_hd, shaped_r, decide_eq_true_eq, sizeLine_eq, Nat.reduceLeDiff, Int.reduceToNat, Int.reducePow, Int.reduceMul, Int.reduceAdd, Int.reduceSub, Int.reduceNeg, Int.reduceMod, setM_same, MO.lst.injEq, setM_setM, ix0, ix1, ix2, ix3, ix4, dPick, keyOf, dSlT, dTupRng, gAppend, dAppend, g2B, dM1, eqv_tn, eqv_tnl, shaped_l, dSlM, g1N, dIsi, tyD, gListD, gListM, gTupleM, sPar, dgPair, isT_it, isT_is, isT_ib, isT_ii, isT_tt, gInS, sTry, xCall, xSeq, xIf, xThen, xRaise, dIsE, dNum, dRep1, gAddT, isT_ss, isT_st, isT_ts, dgAny, djNil, djStr, djFmt, gShow, gRmp, gSplit, gJoin, gIntS, gMulS, dAllG, dRev, gListD, gLenSetI, gLenSetT, dFreeze]
    repeat (refine And.intro (by first | (show CPow _ _; unfold CPow; decide) | (show CMul _ _; unfold CMul; omega) | (show CDivB _ _; unfold CDivB; omega) | decide | omega | exact ⟨_, rfl⟩) ?_)
    refine ⟨a, _, _, _, rfl, by first | decide | omega, hm, hd, by omega, fun v1 o1 l1 u1 d1 => ?_⟩
    try simp only [sSeq, sAsg, sRet, sIf, sDrop, sNext, sNever, dOp, dUn, dVar, dC, dTest, isBool, dAnd, dOr, dNot, dAndV, dOrV, dNotV, dIf, dCons, dNil, dTup, dLst, dLstM, datas, dCall, dCB, gI0, gI, gB0, g1I, gAdd, gEqD, gNeD, gIx, gIn, g1A, g2A, gInt, gLen, gTuple, gSum, gBest, dSl, dNoPart, dPart, dgName, dgTup, dgCons, dgNil, dgSub, gSetI, dIndexT, dChain, startD, List.map_cons, List.map_nil, List.length_cons, List.length_nil, List.replicate, List.append, List.cons_append, List.nil_append, List.getElem?_cons_zero, List.getElem?_cons_succ, List.set_cons_zero, List.set_cons_succ, Option.some.injEq, Dv.d.injEq, Dv.r.injEq, PyData.tuple.injEq, PyData.list.injEq, PyData.str.injEq, PyData.int.injEq, exists_eq_left', Option.map_some, Nat.zero_add, Nat.reduceAdd, Nat.reduceSub, true_and, and_true, exists_and_left, at0, at1, at2, at3, at4, eqv_int, shaped_int, eqv_pr, shaped_pr, bes, intsD, in4, flat4, flatI, Bool.not_eq_true', decide_eq_false_iff_not, not_true_eq_false, if_true, if_false, Bool.not_true, Bool.not_false, Bool.false_eq_true, Bool.true_eq_false, Bool.or_eq_false_iff,  shaped_tn, shaped_hd, shaped_r, decide_eq_true_eq, sizeLine_eq, Nat.reduceLeDiff, Int.reduceToNat, Int.reducePow, Int.reduceMul, Int.reduceAdd, Int.reduceSub, Int.reduceNeg, Int.reduceMod, setM_same, MO.lst.injEq, setM_setM, ix0, ix1, ix2, ix3, ix4]
    repeat (refine And.intro (by first | (show CPow _ _; unfold CPow; decide) | (show CMul _ _; unfold CMul; omega) | (show CDivB _ _; unfold CDivB; omega) | decide | omega | exact ⟨_, rfl⟩) ?_)
    refine ⟨a, _, _, _, rfl, by first | decide | omega, setM_same, d1, by omega, fun v2 o2 l2 u2 d2 => ?_⟩
    try simp only [sSeq, sAsg, sRet, sIf, sDrop, sNext, sNever, dOp, dUn, dVar, dC, dTest, isBool, dAnd, dOr, dNot, dAndV, dOrV, dNotV, dIf, dCons, dNil, dTup, dLst, dLstM, datas, dCall, dCB, gI0, gI, gB0, g1I, gAdd, gEqD, gNeD, gIx, gIn, g1A, g2A, gInt, gLen, gTuple, gSum, gBest, dSl, dNoPart, dPart, dgName, dgTup, dgCons, dgNil, dgSub, gSetI, dIndexT, dChain, startD, List.map_cons, List.map_nil, List.length_cons, List.length_nil, List.replicate, List.append, List.cons_append, List.nil_append, List.getElem?_cons_zero, List.getElem?_cons_succ, List.set_cons_zero, List.set_cons_succ, Option.some.injEq, Dv.d.injEq, Dv.r.injEq, PyData.tuple.injEq, PyData.list.injEq, PyData.str.injEq, PyData.int.injEq, exists_eq_left', Option.map_some, Nat.zero_add, Nat.reduceAdd, Nat.reduceSub, true_and, and_true, exists_and_left, at0, at1, at2, at3, at4, eqv_int, shaped_int, eqv_pr, shaped_pr, bes, intsD, in4, flat4, flatI, Bool.not_eq_true', decide_eq_false_iff_not, not_true_eq_false, if_true, if_false, Bool.not_true, Bool.not_false, Bool.false_eq_true, Bool.true_eq_false, Bool.or_eq_false_iff,  shaped_tn, shaped_hd, shaped_r, decide_eq_true_eq, sizeLine_eq, Nat.reduceLeDiff, Int.reduceToNat, Int.reducePow, Int.reduceMul, Int.reduceAdd, Int.reduceSub, Int.reduceNeg, Int.reduceMod, setM_same, MO.lst.injEq, setM_setM, ix0, ix1, ix2, ix3, ix4]
    repeat (refine And.intro (by first | (show CPow _ _; unfold CPow; decide) | (show CMul _ _; unfold CMul; omega) | (show CDivB _ _; unfold CDivB; omega) | decide | omega | exact ⟨_, rfl⟩) ?_)
    refine ⟨a, _, _, _, rfl, by first | decide | omega, setM_same, d2, by omega, fun v3 o3 l3 u3 d3 => ?_⟩
    try simp only [sSeq, sAsg, sRet, sIf, sDrop, sNext, sNever, dOp, dUn, dVar, dC, dTest, isBool, dAnd, dOr, dNot, dAndV, dOrV, dNotV, dIf, dCons, dNil, dTup, dLst, dLstM, datas, dCall, dCB, gI0, gI, gB0, g1I, gAdd, gEqD, gNeD, gIx, gIn, g1A, g2A, gInt, gLen, gTuple, gSum, gBest, dSl, dNoPart, dPart, dgName, dgTup, dgCons, dgNil, dgSub, gSetI, dIndexT, dChain, startD, List.map_cons, List.map_nil, List.length_cons, List.length_nil, List.replicate, List.append, List.cons_append, List.nil_append, List.getElem?_cons_zero, List.getElem?_cons_succ, List.set_cons_zero, List.set_cons_succ, Option.some.injEq, Dv.d.injEq, Dv.r.injEq, PyData.tuple.injEq, PyData.list.injEq, PyData.str.injEq, PyData.int.injEq, exists_eq_left', Option.map_some, Nat.zero_add, Nat.reduceAdd, Nat.reduceSub, true_and, and_true, exists_and_left, at0, at1, at2, at3, at4, eqv_int, shaped_int, eqv_pr, shaped_pr, bes, intsD, in4, flat4, flatI, Bool.not_eq_true', decide_eq_false_iff_not, not_true_eq_false, if_true, if_false, Bool.not_true, Bool.not_false, Bool.false_eq_true, Bool.true_eq_false, Bool.or_eq_false_iff,  shaped_tn, shaped_hd, shaped_r, decide_eq_true_eq, sizeLine_eq, Nat.reduceLeDiff, Int.reduceToNat, Int.reducePow, Int.reduceMul, Int.reduceAdd, Int.reduceSub, Int.reduceNeg, Int.reduceMod, setM_same, MO.lst.injEq, setM_setM, ix0, ix1, ix2, ix3, ix4]
    refine ⟨a, _, _, _, rfl, by first | decide | omega, setM_same, d3, by omega, fun v4 o4 l4 u4 d4 => ?_⟩
    try simp only [sSeq, sAsg, sRet, sIf, sDrop, sNext, sNever, dOp, dUn, dVar, dC, dTest, isBool, dAnd, dOr, dNot, dAndV, dOrV, dNotV, dIf, dCons, dNil, dTup, dLst, dLstM, datas, dCall, dCB, gI0, gI, gB0, g1I, gAdd, gEqD, gNeD, gIx, gIn, g1A, g2A, gInt, gLen, gTuple, gSum, gBest, dSl, dNoPart, dPart, dgName, dgTup, dgCons, dgNil, dgSub, gSetI, dIndexT, dChain, startD, List.map_cons, List.map_nil, List.length_cons, List.length_nil, List.replicate, List.append, List.cons_append, List.nil_append, List.getElem?_cons_zero, List.getElem?_cons_succ, List.set_cons_zero, List.set_cons_succ, Option.some.injEq, Dv.d.injEq, Dv.r.injEq, PyData.tuple.injEq, PyData.list.injEq, PyData.str.injEq, PyData.int.injEq, exists_eq_left', Option.map_some, Nat.zero_add, Nat.reduceAdd, Nat.reduceSub, true_and, and_true, exists_and_left, at0, at1, at2, at3, at4, eqv_int, shaped_int, eqv_pr, shaped_pr, bes, intsD, in4, flat4, flatI, Bool.not_eq_true', decide_eq_false_iff_not, not_true_eq_false, if_true, if_false, Bool.not_true, Bool.not_false, Bool.false_eq_true, Bool.true_eq_false, Bool.or_eq_false_iff,  shaped_tn, shaped_hd, shaped_r, decide_eq_true_eq, sizeLine_eq, Nat.reduceLeDiff, Int.reduceToNat, Int.reducePow, Int.reduceMul, Int.reduceAdd, Int.reduceSub, Int.reduceNeg, Int.reduceMod, setM_same, MO.lst.injEq, setM_setM, ix0, ix1, ix2, ix3, ix4]
    refine ⟨a, _, _, _, rfl, by decide, setM_same, d4, by omega, fun v5 o5 l5 u5 d5 => ?_⟩
    obtain ⟨x, y, hxy⟩ := at_memP [(v4 - 10, v3 - 3), (v1 - 1000000000, v2 - 1000000000), (v1 - 1000000000, v1 - 1000000000 + (v3 - 3)), (v1 - 1000000000, 0 - (v1 - 1000000000) + (v3 - 3)), (v1 - 1000000000, 0), (0, v1 - 1000000000), (v4 - 10, v4 - 10 + (v3 - 3)), (v4 - 10, 0 - (v4 - 10) + (v3 - 3))] l5 u5
    simp only [List.map_cons, List.map_nil] at hxy
    refine ⟨_, hxy, ?_⟩
    try simp only [sSeq, sAsg, sRet, sIf, sDrop, sNext, sNever, dOp, dUn, dVar, dC, dTest, isBool, dAnd, dOr, dNot, dAndV, dOrV, dNotV, dIf, dCons, dNil, dTup, dLst, dLstM, datas, dCall, dCB, gI0, gI, gB0, g1I, gAdd, gEqD, gNeD, gIx, gIn, g1A, g2A, gInt, gLen, gTuple, gSum, gBest, dSl, dNoPart, dPart, dgName, dgTup, dgCons, dgNil, dgSub, gSetI, dIndexT, dChain, startD, List.map_cons, List.map_nil, List.length_cons, List.length_nil, List.replicate, List.append, List.cons_append, List.nil_append, List.getElem?_cons_zero, List.getElem?_cons_succ, List.set_cons_zero, List.set_cons_succ, Option.some.injEq, Dv.d.injEq, Dv.r.injEq, PyData.tuple.injEq, PyData.list.injEq, PyData.str.injEq, PyData.int.injEq, exists_eq_left', Option.map_some, Nat.zero_add, Nat.reduceAdd, Nat.reduceSub, true_and, and_true, exists_and_left, at0, at1, at2, at3, at4, eqv_int, shaped_int, eqv_pr, shaped_pr, bes, intsD, in4, flat4, flatI, Bool.not_eq_true', decide_eq_false_iff_not, not_true_eq_false, if_true, if_false, Bool.not_true, Bool.not_false, Bool.false_eq_true, Bool.true_eq_false, Bool.or_eq_false_iff,  shaped_tn, shaped_hd, shaped_r, decide_eq_true_eq, sizeLine_eq, Nat.reduceLeDiff, Int.reduceToNat, Int.reducePow, Int.reduceMul, Int.reduceAdd, Int.reduceSub, Int.reduceNeg, Int.reduceMod, setM_same, MO.lst.injEq, setM_setM, ix0, ix1, ix2, ix3, ix4, dPick, keyOf, dSlT, dTupRng, gAppend, dAppend, g2B, dM1, eqv_tn, eqv_tnl, shaped_l, dSlM, g1N, dIsi, tyD, gListD, gListM, gTupleM, sPar, dgPair, isT_it, isT_is, isT_ib, isT_ii, isT_tt, gInS, sTry, xCall, xSeq, xIf, xThen, xRaise, dIsE, dNum, dRep1, gAddT, isT_ss, isT_st, isT_ts, dgAny, djNil, djStr, djFmt, gShow, gRmp, gSplit, gJoin, gIntS, gMulS, dAllG, dRev, gListD, gLenSetI, gLenSetT, dFreeze]
    repeat (refine And.intro (by first | (show CPow _ _; unfold CPow; decide) | (show CMul _ _; unfold CMul; omega) | (show CDivB _ _; unfold CDivB; omega) | decide | omega | exact ⟨_, rfl⟩) ?_)
    have hh : ∀ t : Int, -1000000000 ≤ minI 1000000000 (maxI (-1000000000) t) ∧ minI 1000000000 (maxI (-1000000000) t) ≤ 1000000000 := fun t => by unfold minI maxI; (repeat' split) <;> omega
    have h1 := hh x
    have h2 := hh y
    refine z _ _ _ ⟨by omega, by omega, by omega, by omega⟩ (d5.mono (by omega))
theorem sc__law_left : FnScope ["place"] ["place"] (defScope s__law_left) := ⟨rfl, rfl, rfl, by decide +kernel, rfl, by decide +kernel, by decide +kernel⟩
theorem ok__law_left (T : Tx K mg base) : FnOk P w K mg base CX0 1 T.a__law_left T.fd__law_left ["place"] (spD K F__law_left) := by
  refine Fun.okD T.F__law_left sc__law_left mo__law_left (fun ds m Q h => ?_) (fun cdv A outer s H E hr => ?_)
  · unfold F__law_left at h; obtain ⟨x, y, rfl, z⟩ := h; rfl
  · refine ⟨_, (dss_one (ds_ret (de_tup (da_cons (de_sub de_int (de_ix (dv 0) de_int)) (da_cons (de_ix (dv 0) de_int) da_nil))))), fun ds m Q h => ?_⟩
    obtain ⟨x, y, rfl, z⟩ := h
    try simp only [sSeq, sAsg, sRet, sIf, sDrop, sNext, sNever, dOp, dUn, dVar, dC, dTest, isBool, dAnd, dOr, dNot, dAndV, dOrV, dNotV, dIf, dCons, dNil, dTup, dLst, dLstM, datas, dCall, dCB, gI0, gI, gB0, g1I, gAdd, gEqD, gNeD, gIx, gIn, g1A, g2A, gInt, gLen, gTuple, gSum, gBest, dSl, dNoPart, dPart, dgName, dgTup, dgCons, dgNil, dgSub, gSetI, dIndexT, dChain, startD, List.map_cons, List.map_nil, List.length_cons, List.length_nil, List.replicate, List.append, List.cons_append, List.nil_append, List.getElem?_cons_zero, List.getElem?_cons_succ, List.set_cons_zero, List.set_cons_succ, Option.some.injEq, Dv.d.injEq, Dv.r.injEq, PyData.tuple.injEq, PyData.list.injEq, PyData.str.injEq, PyData.int.injEq, exists_eq_left', Option.map_some, Nat.zero_add, Nat.reduceAdd, Nat.reduceSub, true_and, and_true, exists_and_left, at0, at1, at2, at3, at4, eqv_int, shaped_int, eqv_pr, shaped_pr, bes, intsD, in4, flat4, flatI, Bool.not_eq_true', decide_eq_false_iff_not, not_true_eq_false, if_true, if_false, Bool.not_true, Bool.not_false, Bool.false_eq_true, Bool.true_eq_false, Bool.or_eq_false_iff,  shaped_tn, shaped_hd, shaped_r, decide_eq_true_eq, sizeLine_eq, Nat.reduceLeDiff, Int.reduceToNat, Int.reducePow, Int.reduceMul, Int.reduceAdd, Int.reduceSub, Int.reduceNeg, Int.reduceMod, setM_same, MO.lst.injEq, setM_setM, ix0, ix1, ix2, ix3, ix4, dPick, keyOf, dSlT, dTupRng, gAppend, dAppend, g2B, dM1, eqv_tn, eqv_tnl, shaped_l, dSlM, g1N, dIsi, tyD, gListD, gListM, gTupleM, sPar, dgPair, isT_it, isT_is, isT_ib, isT_ii, isT_tt, gInS, sTry, xCall, xSeq, xIf, xThen, xRaise, dIsE, dNum, dRep1, gAddT, isT_ss, isT_st, isT_ts, dgAny, djNil, djStr, djFmt, gShow, gRmp, gSplit, gJoin, gIntS, gMulS, dAllG, dRev, gListD, gLenSetI, gLenSetT, dFreeze]
    exact z
theorem sc__law_otherwise_right : FnScope ["deck", "spiral", "number", "start", "heading", "turn", "place", "other", "on", "mirrored", "due"] ["deck", "spiral", "number"] (defScope s__law_otherwise_right) := ⟨rfl, rfl, rfl, by decide +kernel, rfl, by decide +kernel, by decide +kernel⟩
theorem ok__law_otherwise_right (T : Tx K mg base) : FnOk P w K mg base CX0 5 T.a__law_otherwise_right T.fd__law_otherwise_right ["deck", "spiral", "number"] (spD K F__law_otherwise_right) := by
  refine Fun.okD T.F__law_otherwise_right sc__law_otherwise_right mo__law_otherwise_right (fun ds m Q h => ?_) (fun cdv A outer s H E hr => ?_)
  · unfold F__law_otherwise_right at h; obtain ⟨a, o, c, s, q, r, n, rfl, hm, hd, hc, hq, hs, hn, z⟩ := h; rfl
  · refine ⟨_, (dss_cons (ds_asg (dv 1) (dg_tup (n := 3) rfl (dgs_cons (dg_name (i := 3) sc__law_otherwise_right.nd rfl (by first | exact Or.inl rfl | exact Or.inr rfl)) (dgs_cons (dg_name (i := 4) sc__law_otherwise_right.nd rfl (by first | exact Or.inl rfl | exact Or.inr rfl)) (dgs_cons (dg_name (i := 5) sc__law_otherwise_right.nd rfl (by first | exact Or.inl rfl | exact Or.inr rfl)) dgs_nil)))))
      (dss_cons (ds_set (i := 6) sc__law_otherwise_right.nd rfl (by first | exact Or.inl rfl | exact Or.inr rfl) (de_call mo_place_of ((ok_place_of T).mono (by decide : 4 ≤ 4)) hr (by rfl) T.m_place_of T.F_place_of.kp T.n_place_of (da_cons (dv 1) (da_cons (dv 2) da_nil))))
      (dss_cons (ds_set (i := 7) sc__law_otherwise_right.nd rfl (by first | exact Or.inl rfl | exact Or.inr rfl) (de_ix (de_lst (da_cons (de_add (dv 3) de_int) (da_cons (de_sub (dv 3) de_int) (da_cons de_int (da_cons (de_sub de_int (dv 3)) (da_cons (de_pow de_int de_int) da_nil)))))) (de_call mo__law_next ((ok__law_next T).mono (by decide : 2 ≤ 4)) hr (by rfl) T.m__law_next T.F__law_next.kp T.n__law_next (da_cons (dv 0) (da_cons de_int da_nil)))))
      (dss_cons (ds_set (i := 7) sc__law_otherwise_right.nd rfl (by first | exact Or.inl rfl | exact Or.inr rfl) (de_min2 rfl (by rfl) T.b_min (da_cons (de_pow de_int de_int) (da_cons (de_max2 rfl (by rfl) T.b_max (da_cons (de_sub de_int (de_pow de_int de_int)) (da_cons (dv 7) da_nil))) da_nil))))
      (dss_cons (ds_if (dt_ne hr (de_call mo_place_of ((ok_place_of T).mono (by decide : 4 ≤ 4)) hr (by rfl) T.m_place_of T.F_place_of.kp T.n_place_of (da_cons (de_tup (da_cons (dv 7) (da_cons (dv 4) (da_cons (dv 5) da_nil)))) (da_cons (de_add (de_sub (dv 2) (dv 3)) (dv 7)) da_nil))) (dv 6)) (dss_one (ds_ret de_bl)) dss_nil)
      (dss_cons (ds_if (dt_ne hr (de_call mo_number_at ((ok_number_at T).mono (by decide : 3 ≤ 4)) hr (by rfl) T.m_number_at T.F_number_at.kp T.n_number_at (da_cons (de_tup (da_cons (dv 7) (da_cons (dv 4) (da_cons (dv 5) da_nil)))) (da_cons (dv 6) da_nil))) (de_add (de_sub (dv 2) (dv 3)) (dv 7))) (dss_one (ds_ret de_bl)) dss_nil)
      (dss_cons (ds_set (i := 8) sc__law_otherwise_right.nd rfl (by first | exact Or.inl rfl | exact Or.inr rfl) (de_ix de_str (de_mod (de_add (de_sfind de_str (dv 4)) de_int) de_int)))
      (dss_cons (ds_if (dt_ne hr (de_call mo_place_of ((ok_place_of T).mono (by decide : 4 ≤ 4)) hr (by rfl) T.m_place_of T.F_place_of.kp T.n_place_of (da_cons (de_tup (da_cons (dv 3) (da_cons (dv 8) (da_cons (dv 5) da_nil)))) (da_cons (dv 2) da_nil))) (de_call mo__law_left ((ok__law_left T).mono (by decide : 1 ≤ 4)) hr (by rfl) T.m__law_left T.F__law_left.kp T.n__law_left (da_cons (dv 6) da_nil))) (dss_one (ds_ret de_bl)) dss_nil)
      (dss_cons (ds_set (i := 9) sc__law_otherwise_right.nd rfl (by first | exact Or.inl rfl | exact Or.inr rfl) (de_tup (da_cons (dv 3) (da_cons (dv 4) (da_cons (de_ix de_str (de_sfind de_str (dv 5))) da_nil)))))
      (dss_cons (ds_set (i := 10) sc__law_otherwise_right.nd rfl (by first | exact Or.inl rfl | exact Or.inr rfl) (de_lst (da_cons (de_tup (da_cons (de_ix (dv 6) de_int) (da_cons (de_sub de_int (de_ix (dv 6) de_int)) da_nil))) (da_cons (de_tup (da_cons (de_sub de_int (de_ix (dv 6) de_int)) (da_cons (de_ix (dv 6) de_int) da_nil))) da_nil))))
      (dss_one (ds_ret (de_eq hr (de_call mo_place_of ((ok_place_of T).mono (by decide : 4 ≤ 4)) hr (by rfl) T.m_place_of T.F_place_of.kp T.n_place_of (da_cons (dv 9) (da_cons (dv 2) da_nil))) (de_ix (dv 10) (de_intc (by rfl) T.b_int (da_cons (de_in (dv 4) (de_tup (da_cons de_str (da_cons de_str da_nil)))) da_nil)))))))))))))))), fun ds m Q h => ?_⟩
    obtain ⟨a, o, c, s, q, r, n, rfl, hm, hd, hc, hq, hs, hn, z⟩ := h
    try simp only [sSeq, sAsg, sRet, sIf, sDrop, sNext, sNever, dOp, dUn, dVar, dC, dTest, isBool, dAnd, dOr, dNot, dAndV, dOrV, dNotV, dIf, dCons, dNil, dTup, dLst, dLstM, datas, dCall, dCB, gI0, gI, gB0, g1I, gAdd, gEqD, gNeD, gIx, gIn, g1A, g2A, gInt, gLen, gTuple, gSum, gBest, dSl, dNoPart, dPart, dgName, dgTup, dgCons, dgNil, dgSub, gSetI, dIndexT, dChain, startD, List.map_cons, List.map_nil, List.length_cons, List.length_nil, List.replicate, List.append, List.cons_append, List.nil_append, List.getElem?_cons_zero, List.getElem?_cons_succ, List.set_cons_zero, List.set_cons_succ, Option.some.injEq, Dv.d.injEq, Dv.r.injEq, PyData.tuple.injEq, PyData.list.injEq, PyData.str.injEq, PyData.int.injEq, exists_eq_left', Option.map_some, Nat.zero_add, Nat.reduceAdd, Nat.reduceSub, true_and, and_true, exists_and_left, at0, at1, at2, at3, at4, eqv_int, shaped_int, eqv_pr, shaped_pr, bes, intsD, in4, flat4, flatI, Bool.not_eq_true', decide_eq_false_iff_not, not_true_eq_false, if_true, if_false, Bool.not_true, Bool.not_false, Bool.false_eq_true, Bool.true_eq_false, Bool.or_eq_false_iff,  shaped_tn, shaped_hd, shaped_r, decide_eq_true_eq, sizeLine_eq, Nat.reduceLeDiff, Int.reduceToNat, Int.reducePow, Int.reduceMul, Int.reduceAdd, Int.reduceSub, Int.reduceNeg, Int.reduceMod, setM_same, MO.lst.injEq, setM_setM, ix0, ix1, ix2, ix3, ix4, dPick, keyOf, dSlT, dTupRng, gAppend, dAppend, g2B, dM1, eqv_tn, eqv_tnl, shaped_l, dSlM, g1N, dIsi, tyD, gListD, gListM, gTupleM, sPar, dgPair, isT_it, isT_is, isT_ib, isT_ii, isT_tt, gInS, sTry, xCall, xSeq, xIf, xThen, xRaise, dIsE, dNum, dRep1, gAddT, isT_ss, isT_st, isT_ts, dgAny, djNil, djStr, djFmt, gShow, gRmp, gSplit, gJoin, gIntS, gMulS, dAllG, dRev, gListD, gLenSetI, gLenSetT, dFreeze]
    refine ⟨s, q, r, n, rfl, hq, by omega, fun x y hxy => ?_⟩
    try simp only [sSeq, sAsg, sRet, sIf, sDrop, sNext, sNever, dOp, dUn, dVar, dC, dTest, isBool, dAnd, dOr, dNot, dAndV, dOrV, dNotV, dIf, dCons, dNil, dTup, dLst, dLstM, datas, dCall, dCB, gI0, gI, gB0, g1I, gAdd, gEqD, gNeD, gIx, gIn, g1A, g2A, gInt, gLen, gTuple, gSum, gBest, dSl, dNoPart, dPart, dgName, dgTup, dgCons, dgNil, dgSub, gSetI, dIndexT, dChain, startD, List.map_cons, List.map_nil, List.length_cons, List.length_nil, List.replicate, List.append, List.cons_append, List.nil_append, List.getElem?_cons_zero, List.getElem?_cons_succ, List.set_cons_zero, List.set_cons_succ, Option.some.injEq, Dv.d.injEq, Dv.r.injEq, PyData.tuple.injEq, PyData.list.injEq, PyData.str.injEq, PyData.int.injEq, exists_eq_left', Option.map_some, Nat.zero_add, Nat.reduceAdd, Nat.reduceSub, true_and, and_true, exists_and_left, at0, at1, at2, at3, at4, eqv_int, shaped_int, eqv_pr, shaped_pr, bes, intsD, in4, flat4, flatI, Bool.not_eq_true', decide_eq_false_iff_not, not_true_eq_false, if_true, if_false, Bool.not_true, Bool.not_false, Bool.false_eq_true, Bool.true_eq_false, Bool.or_eq_false_iff,  shaped_tn, shaped_hd, shaped_r, decide_eq_true_eq, sizeLine_eq, Nat.reduceLeDiff, Int.reduceToNat, Int.reducePow, Int.reduceMul, Int.reduceAdd, Int.reduceSub, Int.reduceNeg, Int.reduceMod, setM_same, MO.lst.injEq, setM_setM, ix0, ix1, ix2, ix3, ix4, dPick, keyOf, dSlT, dTupRng, gAppend, dAppend, g2B, dM1, eqv_tn, eqv_tnl, shaped_l, dSlM, g1N, dIsi, tyD, gListD, gListM, gTupleM, sPar, dgPair, isT_it, isT_is, isT_ib, isT_ii, isT_tt, gInS, sTry, xCall, xSeq, xIf, xThen, xRaise, dIsE, dNum, dRep1, gAddT, isT_ss, isT_st, isT_ts, dgAny, djNil, djStr, djFmt, gShow, gRmp, gSplit, gJoin, gIntS, gMulS, dAllG, dRev, gListD, gLenSetI, gLenSetT, dFreeze]
    refine ⟨by unfold CPow; decide, a, _, _, _, rfl, by decide, hm, hd, by omega, fun v1 o1 l1 u1 d1 => ?_⟩
    try simp only [sSeq, sAsg, sRet, sIf, sDrop, sNext, sNever, dOp, dUn, dVar, dC, dTest, isBool, dAnd, dOr, dNot, dAndV, dOrV, dNotV, dIf, dCons, dNil, dTup, dLst, dLstM, datas, dCall, dCB, gI0, gI, gB0, g1I, gAdd, gEqD, gNeD, gIx, gIn, g1A, g2A, gInt, gLen, gTuple, gSum, gBest, dSl, dNoPart, dPart, dgName, dgTup, dgCons, dgNil, dgSub, gSetI, dIndexT, dChain, startD, List.map_cons, List.map_nil, List.length_cons, List.length_nil, List.replicate, List.append, List.cons_append, List.nil_append, List.getElem?_cons_zero, List.getElem?_cons_succ, List.set_cons_zero, List.set_cons_succ, Option.some.injEq, Dv.d.injEq, Dv.r.injEq, PyData.tuple.injEq, PyData.list.injEq, PyData.str.injEq, PyData.int.injEq, exists_eq_left', Option.map_some, Nat.zero_add, Nat.reduceAdd, Nat.reduceSub, true_and, and_true, exists_and_left, at0, at1, at2, at3, at4, eqv_int, shaped_int, eqv_pr, shaped_pr, bes, intsD, in4, flat4, flatI, Bool.not_eq_true', decide_eq_false_iff_not, not_true_eq_false, if_true, if_false, Bool.not_true, Bool.not_false, Bool.false_eq_true, Bool.true_eq_false, Bool.or_eq_false_iff,  shaped_tn, shaped_hd, shaped_r, decide_eq_true_eq, sizeLine_eq, Nat.reduceLeDiff, Int.reduceToNat, Int.reducePow, Int.reduceMul, Int.reduceAdd, Int.reduceSub, Int.reduceNeg, Int.reduceMod, setM_same, MO.lst.injEq, setM_setM, ix0, ix1, ix2, ix3, ix4, dPick, keyOf, dSlT, dTupRng, gAppend, dAppend, g2B, dM1, eqv_tn, eqv_tnl, shaped_l, dSlM, g1N, dIsi, tyD, gListD, gListM, gTupleM, sPar, dgPair, isT_it, isT_is, isT_ib, isT_ii, isT_tt, gInS, sTry, xCall, xSeq, xIf, xThen, xRaise, dIsE, dNum, dRep1, gAddT, isT_ss, isT_st, isT_ts, dgAny, djNil, djStr, djFmt, gShow, gRmp, gSplit, gJoin, gIntS, gMulS, dAllG, dRev, gListD, gLenSetI, gLenSetT, dFreeze]
    obtain ⟨s1, m1, e1⟩ := at_mem (ns := [s + 1, s - 1, 0, 0 - s, 1000000000000000000]) l1 u1
    simp only [List.map_cons, List.map_nil] at e1
    refine ⟨_, e1, ?_⟩
    try simp only [sSeq, sAsg, sRet, sIf, sDrop, sNext, sNever, dOp, dUn, dVar, dC, dTest, isBool, dAnd, dOr, dNot, dAndV, dOrV, dNotV, dIf, dCons, dNil, dTup, dLst, dLstM, datas, dCall, dCB, gI0, gI, gB0, g1I, gAdd, gEqD, gNeD, gIx, gIn, g1A, g2A, gInt, gLen, gTuple, gSum, gBest, dSl, dNoPart, dPart, dgName, dgTup, dgCons, dgNil, dgSub, gSetI, dIndexT, dChain, startD, List.map_cons, List.map_nil, List.length_cons, List.length_nil, List.replicate, List.append, List.cons_append, List.nil_append, List.getElem?_cons_zero, List.getElem?_cons_succ, List.set_cons_zero, List.set_cons_succ, Option.some.injEq, Dv.d.injEq, Dv.r.injEq, PyData.tuple.injEq, PyData.list.injEq, PyData.str.injEq, PyData.int.injEq, exists_eq_left', Option.map_some, Nat.zero_add, Nat.reduceAdd, Nat.reduceSub, true_and, and_true, exists_and_left, at0, at1, at2, at3, at4, eqv_int, shaped_int, eqv_pr, shaped_pr, bes, intsD, in4, flat4, flatI, Bool.not_eq_true', decide_eq_false_iff_not, not_true_eq_false, if_true, if_false, Bool.not_true, Bool.not_false, Bool.false_eq_true, Bool.true_eq_false, Bool.or_eq_false_iff,  shaped_tn, shaped_hd, shaped_r, decide_eq_true_eq, sizeLine_eq, Nat.reduceLeDiff, Int.reduceToNat, Int.reducePow, Int.reduceMul, Int.reduceAdd, Int.reduceSub, Int.reduceNeg, Int.reduceMod, setM_same, MO.lst.injEq, setM_setM, ix0, ix1, ix2, ix3, ix4, dPick, keyOf, dSlT, dTupRng, gAppend, dAppend, g2B, dM1, eqv_tn, eqv_tnl, shaped_l, dSlM, g1N, dIsi, tyD, gListD, gListM, gTupleM, sPar, dgPair, isT_it, isT_is, isT_ib, isT_ii, isT_tt, gInS, sTry, xCall, xSeq, xIf, xThen, xRaise, dIsE, dNum, dRep1, gAddT, isT_ss, isT_st, isT_ts, dgAny, djNil, djStr, djFmt, gShow, gRmp, gSplit, gJoin, gIntS, gMulS, dAllG, dRev, gListD, gLenSetI, gLenSetT, dFreeze]
    refine ⟨by unfold CPow; decide, by unfold CPow; decide, ?_⟩
    obtain ⟨t, ht⟩ : ∃ t, t = minI 1000000000000000000 (maxI (-1000000000000000000) s1) := ⟨_, rfl⟩
    rw [← ht]
    clear ht e1
    try simp only [sSeq, sAsg, sRet, sIf, sDrop, sNext, sNever, dOp, dUn, dVar, dC, dTest, isBool, dAnd, dOr, dNot, dAndV, dOrV, dNotV, dIf, dCons, dNil, dTup, dLst, dLstM, datas, dCall, dCB, gI0, gI, gB0, g1I, gAdd, gEqD, gNeD, gIx, gIn, g1A, g2A, gInt, gLen, gTuple, gSum, gBest, dSl, dNoPart, dPart, dgName, dgTup, dgCons, dgNil, dgSub, gSetI, dIndexT, dChain, startD, List.map_cons, List.map_nil, List.length_cons, List.length_nil, List.replicate, List.append, List.cons_append, List.nil_append, List.getElem?_cons_zero, List.getElem?_cons_succ, List.set_cons_zero, List.set_cons_succ, Option.some.injEq, Dv.d.injEq, Dv.r.injEq, PyData.tuple.injEq, PyData.list.injEq, PyData.str.injEq, PyData.int.injEq, exists_eq_left', Option.map_some, Nat.zero_add, Nat.reduceAdd, Nat.reduceSub, true_and, and_true, exists_and_left, at0, at1, at2, at3, at4, eqv_int, shaped_int, eqv_pr, shaped_pr, bes, intsD, in4, flat4, flatI, Bool.not_eq_true', decide_eq_false_iff_not, not_true_eq_false, if_true, if_false, Bool.not_true, Bool.not_false, Bool.false_eq_true, Bool.true_eq_false, Bool.or_eq_false_iff,  shaped_tn, shaped_hd, shaped_r, decide_eq_true_eq, sizeLine_eq, Nat.reduceLeDiff, Int.reduceToNat, Int.reducePow, Int.reduceMul, Int.reduceAdd, Int.reduceSub, Int.reduceNeg, Int.reduceMod, setM_same, MO.lst.injEq, setM_setM, ix0, ix1, ix2, ix3, ix4, dPick, keyOf, dSlT, dTupRng, gAppend, dAppend, g2B, dM1, eqv_tn, eqv_tnl, shaped_l, dSlM, g1N, dIsi, tyD, gListD, gListM, gTupleM, sPar, dgPair, isT_it, isT_is, isT_ib, isT_ii, isT_tt, gInS, sTry, xCall, xSeq, xIf, xThen, xRaise, dIsE, dNum, dRep1, gAddT, isT_ss, isT_st, isT_ts, dgAny, djNil, djStr, djFmt, gShow, gRmp, gSplit, gJoin, gIntS, gMulS, dAllG, dRev, gListD, gLenSetI, gLenSetT, dFreeze]
    refine ⟨t, q, r, _, rfl, hq, by omega, fun x2 y2 h2 => ?_⟩
    obtain ⟨rfl, rfl⟩ := at_inj hq (r := r) (show at' q r x2 y2 = at' q r x y by omega)
    have sp : ∀ a b : Int, SeqAt.shaped (.tuple [.int a, .int b]) = true := fun a b => by
      unfold SeqAt.shaped
      simp [PyData.canLay0, PyData.canLayAll0, PyData.depth, PyData.depthAll]
    have si : ∀ a : Int, SeqAt.shaped (.int a) = true := fun a => by
      unfold SeqAt.shaped
      simp [PyData.canLay0, PyData.canLayAll0, PyData.depth, PyData.depthAll]
    obtain ⟨_, n1, n2, n3, n4⟩ := at_near hq (show at' q r x2 y2 < 2 ^ 118 by omega)
    try simp only [sSeq, sAsg, sRet, sIf, sDrop, sNext, sNever, dOp, dUn, dVar, dC, dTest, isBool, dAnd, dOr, dNot, dAndV, dOrV, dNotV, dIf, dCons, dNil, dTup, dLst, dLstM, datas, dCall, dCB, gI0, gI, gB0, g1I, gAdd, gEqD, gNeD, gIx, gIn, g1A, g2A, gInt, gLen, gTuple, gSum, gBest, dSl, dNoPart, dPart, dgName, dgTup, dgCons, dgNil, dgSub, gSetI, dIndexT, dChain, startD, List.map_cons, List.map_nil, List.length_cons, List.length_nil, List.replicate, List.append, List.cons_append, List.nil_append, List.getElem?_cons_zero, List.getElem?_cons_succ, List.set_cons_zero, List.set_cons_succ, Option.some.injEq, Dv.d.injEq, Dv.r.injEq, PyData.tuple.injEq, PyData.list.injEq, PyData.str.injEq, PyData.int.injEq, exists_eq_left', Option.map_some, Nat.zero_add, Nat.reduceAdd, Nat.reduceSub, true_and, and_true, exists_and_left, at0, at1, at2, at3, at4, eqv_int, shaped_int, eqv_pr, shaped_pr, bes, intsD, in4, flat4, flatI, Bool.not_eq_true', decide_eq_false_iff_not, not_true_eq_false, if_true, if_false, Bool.not_true, Bool.not_false, Bool.false_eq_true, Bool.true_eq_false, Bool.or_eq_false_iff,  shaped_tn, shaped_hd, shaped_r, decide_eq_true_eq, sizeLine_eq, Nat.reduceLeDiff, Int.reduceToNat, Int.reducePow, Int.reduceMul, Int.reduceAdd, Int.reduceSub, Int.reduceNeg, Int.reduceMod, setM_same, MO.lst.injEq, setM_setM, ix0, ix1, ix2, ix3, ix4, dPick, keyOf, dSlT, dTupRng, gAppend, dAppend, g2B, dM1, eqv_tn, eqv_tnl, shaped_l, dSlM, g1N, dIsi, tyD, gListD, gListM, gTupleM, sPar, dgPair, isT_it, isT_is, isT_ib, isT_ii, isT_tt, gInS, sTry, xCall, xSeq, xIf, xThen, xRaise, dIsE, dNum, dRep1, gAddT, isT_ss, isT_st, isT_ts, dgAny, djNil, djStr, djFmt, gShow, gRmp, gSplit, gJoin, gIntS, gMulS, dAllG, dRev, gListD, gLenSetI, gLenSetT, dFreeze]
    refine ⟨t, q, r, x2, y2, rfl, hq, by omega, ?_⟩
    try simp only [sSeq, sAsg, sRet, sIf, sDrop, sNext, sNever, dOp, dUn, dVar, dC, dTest, isBool, dAnd, dOr, dNot, dAndV, dOrV, dNotV, dIf, dCons, dNil, dTup, dLst, dLstM, datas, dCall, dCB, gI0, gI, gB0, g1I, gAdd, gEqD, gNeD, gIx, gIn, g1A, g2A, gInt, gLen, gTuple, gSum, gBest, dSl, dNoPart, dPart, dgName, dgTup, dgCons, dgNil, dgSub, gSetI, dIndexT, dChain, startD, List.map_cons, List.map_nil, List.length_cons, List.length_nil, List.replicate, List.append, List.cons_append, List.nil_append, List.getElem?_cons_zero, List.getElem?_cons_succ, List.set_cons_zero, List.set_cons_succ, Option.some.injEq, Dv.d.injEq, Dv.r.injEq, PyData.tuple.injEq, PyData.list.injEq, PyData.str.injEq, PyData.int.injEq, exists_eq_left', Option.map_some, Nat.zero_add, Nat.reduceAdd, Nat.reduceSub, true_and, and_true, exists_and_left, at0, at1, at2, at3, at4, eqv_int, shaped_int, eqv_pr, shaped_pr, bes, intsD, in4, flat4, flatI, Bool.not_eq_true', decide_eq_false_iff_not, not_true_eq_false, if_true, if_false, Bool.not_true, Bool.not_false, Bool.false_eq_true, Bool.true_eq_false, Bool.or_eq_false_iff,  shaped_tn, shaped_hd, shaped_r, decide_eq_true_eq, sizeLine_eq, Nat.reduceLeDiff, Int.reduceToNat, Int.reducePow, Int.reduceMul, Int.reduceAdd, Int.reduceSub, Int.reduceNeg, Int.reduceMod, setM_same, MO.lst.injEq, setM_setM, ix0, ix1, ix2, ix3, ix4, dPick, keyOf, dSlT, dTupRng, gAppend, dAppend, g2B, dM1, eqv_tn, eqv_tnl, shaped_l, dSlM, g1N, dIsi, tyD, gListD, gListM, gTupleM, sPar, dgPair, isT_it, isT_is, isT_ib, isT_ii, isT_tt, gInS, sTry, xCall, xSeq, xIf, xThen, xRaise, dIsE, dNum, dRep1, gAddT, isT_ss, isT_st, isT_ts, dgAny, djNil, djStr, djFmt, gShow, gRmp, gSplit, gJoin, gIntS, gMulS, dAllG, dRev, gListD, gLenSetI, gLenSetT, dFreeze]
    rw [if_neg (show ¬ ¬ (t + at' q r x2 y2 = n - s + t) by omega)]
    refine ⟨⟨_, rfl⟩, ?_⟩
    unfold gSFind
    try simp only [sSeq, sAsg, sRet, sIf, sDrop, sNext, sNever, dOp, dUn, dVar, dC, dTest, isBool, dAnd, dOr, dNot, dAndV, dOrV, dNotV, dIf, dCons, dNil, dTup, dLst, dLstM, datas, dCall, dCB, gI0, gI, gB0, g1I, gAdd, gEqD, gNeD, gIx, gIn, g1A, g2A, gInt, gLen, gTuple, gSum, gBest, dSl, dNoPart, dPart, dgName, dgTup, dgCons, dgNil, dgSub, gSetI, dIndexT, dChain, startD, List.map_cons, List.map_nil, List.length_cons, List.length_nil, List.replicate, List.append, List.cons_append, List.nil_append, List.getElem?_cons_zero, List.getElem?_cons_succ, List.set_cons_zero, List.set_cons_succ, Option.some.injEq, Dv.d.injEq, Dv.r.injEq, PyData.tuple.injEq, PyData.list.injEq, PyData.str.injEq, PyData.int.injEq, exists_eq_left', Option.map_some, Nat.zero_add, Nat.reduceAdd, Nat.reduceSub, true_and, and_true, exists_and_left, at0, at1, at2, at3, at4, eqv_int, shaped_int, eqv_pr, shaped_pr, bes, intsD, in4, flat4, flatI, Bool.not_eq_true', decide_eq_false_iff_not, not_true_eq_false, if_true, if_false, Bool.not_true, Bool.not_false, Bool.false_eq_true, Bool.true_eq_false, Bool.or_eq_false_iff,  shaped_tn, shaped_hd, shaped_r, decide_eq_true_eq, sizeLine_eq, Nat.reduceLeDiff, Int.reduceToNat, Int.reducePow, Int.reduceMul, Int.reduceAdd, Int.reduceSub, Int.reduceNeg, Int.reduceMod, setM_same, MO.lst.injEq, setM_setM, ix0, ix1, ix2, ix3, ix4, dPick, keyOf, dSlT, dTupRng, gAppend, dAppend, g2B, dM1, eqv_tn, eqv_tnl, shaped_l, dSlM, g1N, dIsi, tyD, gListD, gListM, gTupleM, sPar, dgPair, isT_it, isT_is, isT_ib, isT_ii, isT_tt, gInS, sTry, xCall, xSeq, xIf, xThen, xRaise, dIsE, dNum, dRep1, gAddT, isT_ss, isT_st, isT_ts, dgAny, djNil, djStr, djFmt, gShow, gRmp, gSplit, gJoin, gIntS, gMulS, dAllG, dRev, gListD, gLenSetI, gLenSetT, dFreeze]
    rw [find_hd hq]
    try simp only [sSeq, sAsg, sRet, sIf, sDrop, sNext, sNever, dOp, dUn, dVar, dC, dTest, isBool, dAnd, dOr, dNot, dAndV, dOrV, dNotV, dIf, dCons, dNil, dTup, dLst, dLstM, datas, dCall, dCB, gI0, gI, gB0, g1I, gAdd, gEqD, gNeD, gIx, gIn, g1A, g2A, gInt, gLen, gTuple, gSum, gBest, dSl, dNoPart, dPart, dgName, dgTup, dgCons, dgNil, dgSub, gSetI, dIndexT, dChain, startD, List.map_cons, List.map_nil, List.length_cons, List.length_nil, List.replicate, List.append, List.cons_append, List.nil_append, List.getElem?_cons_zero, List.getElem?_cons_succ, List.set_cons_zero, List.set_cons_succ, Option.some.injEq, Dv.d.injEq, Dv.r.injEq, PyData.tuple.injEq, PyData.list.injEq, PyData.str.injEq, PyData.int.injEq, exists_eq_left', Option.map_some, Nat.zero_add, Nat.reduceAdd, Nat.reduceSub, true_and, and_true, exists_and_left, at0, at1, at2, at3, at4, eqv_int, shaped_int, eqv_pr, shaped_pr, bes, intsD, in4, flat4, flatI, Bool.not_eq_true', decide_eq_false_iff_not, not_true_eq_false, if_true, if_false, Bool.not_true, Bool.not_false, Bool.false_eq_true, Bool.true_eq_false, Bool.or_eq_false_iff,  shaped_tn, shaped_hd, shaped_r, decide_eq_true_eq, sizeLine_eq, Nat.reduceLeDiff, Int.reduceToNat, Int.reducePow, Int.reduceMul, Int.reduceAdd, Int.reduceSub, Int.reduceNeg, Int.reduceMod, setM_same, MO.lst.injEq, setM_setM, ix0, ix1, ix2, ix3, ix4, dPick, keyOf, dSlT, dTupRng, gAppend, dAppend, g2B, dM1, eqv_tn, eqv_tnl, shaped_l, dSlM, g1N, dIsi, tyD, gListD, gListM, gTupleM, sPar, dgPair, isT_it, isT_is, isT_ib, isT_ii, isT_tt, gInS, sTry, xCall, xSeq, xIf, xThen, xRaise, dIsE, dNum, dRep1, gAddT, isT_ss, isT_st, isT_ts, dgAny, djNil, djStr, djFmt, gShow, gRmp, gSplit, gJoin, gIntS, gMulS, dAllG, dRev, gListD, gLenSetI, gLenSetT, dFreeze]
    refine ⟨by decide, len_enws, ?_⟩
    obtain ⟨c4, e4, h4⟩ := hd_at (r := (((q : Nat) : Int) + 1) % 4) (by omega) (by omega)
    refine ⟨c4, e4, ?_⟩
    rw [h4, show ((((q : Nat) : Int) + 1) % 4).toNat = (q + 1) % 4 by omega]
    refine ⟨s, (q + 1) % 4, r, n, rfl, Nat.mod_lt _ (by decide), by omega, fun x3 y3 h3 => ?_⟩
    obtain ⟨ex, ey⟩ := at_inj (Nat.mod_lt _ (by decide)) (r := r) (show at' ((q + 1) % 4) r x3 y3 = at' ((q + 1) % 4) r (0 - y2) x2 by rw [at_rot4 hq]; omega)
    rw [ex, ey]
    refine ⟨x2, y2, rfl, ?_⟩
    try simp only [sSeq, sAsg, sRet, sIf, sDrop, sNext, sNever, dOp, dUn, dVar, dC, dTest, isBool, dAnd, dOr, dNot, dAndV, dOrV, dNotV, dIf, dCons, dNil, dTup, dLst, dLstM, datas, dCall, dCB, gI0, gI, gB0, g1I, gAdd, gEqD, gNeD, gIx, gIn, g1A, g2A, gInt, gLen, gTuple, gSum, gBest, dSl, dNoPart, dPart, dgName, dgTup, dgCons, dgNil, dgSub, gSetI, dIndexT, dChain, startD, List.map_cons, List.map_nil, List.length_cons, List.length_nil, List.replicate, List.append, List.cons_append, List.nil_append, List.getElem?_cons_zero, List.getElem?_cons_succ, List.set_cons_zero, List.set_cons_succ, Option.some.injEq, Dv.d.injEq, Dv.r.injEq, PyData.tuple.injEq, PyData.list.injEq, PyData.str.injEq, PyData.int.injEq, exists_eq_left', Option.map_some, Nat.zero_add, Nat.reduceAdd, Nat.reduceSub, true_and, and_true, exists_and_left, at0, at1, at2, at3, at4, eqv_int, shaped_int, eqv_pr, shaped_pr, bes, intsD, in4, flat4, flatI, Bool.not_eq_true', decide_eq_false_iff_not, not_true_eq_false, if_true, if_false, Bool.not_true, Bool.not_false, Bool.false_eq_true, Bool.true_eq_false, Bool.or_eq_false_iff,  shaped_tn, shaped_hd, shaped_r, decide_eq_true_eq, sizeLine_eq, Nat.reduceLeDiff, Int.reduceToNat, Int.reducePow, Int.reduceMul, Int.reduceAdd, Int.reduceSub, Int.reduceNeg, Int.reduceMod, setM_same, MO.lst.injEq, setM_setM, ix0, ix1, ix2, ix3, ix4, dPick, keyOf, dSlT, dTupRng, gAppend, dAppend, g2B, dM1, eqv_tn, eqv_tnl, shaped_l, dSlM, g1N, dIsi, tyD, gListD, gListM, gTupleM, sPar, dgPair, isT_it, isT_is, isT_ib, isT_ii, isT_tt, gInS, sTry, xCall, xSeq, xIf, xThen, xRaise, dIsE, dNum, dRep1, gAddT, isT_ss, isT_st, isT_ts, dgAny, djNil, djStr, djFmt, gShow, gRmp, gSplit, gJoin, gIntS, gMulS, dAllG, dRev, gListD, gLenSetI, gLenSetT, dFreeze]
    obtain ⟨c5, e5, h5⟩ := at_rl4 r
    refine ⟨⟨_, rfl⟩, len_rl4, c5, by rw [find_tn]; exact e5, ?_⟩
    rw [h5]
    refine ⟨s, q, !r, n, rfl, hq, by omega, fun x4 y4 h6 => ?_⟩
    refine ⟨by rcases (show q = 0 ∨ q = 1 ∨ q = 2 ∨ q = 3 by omega) with rfl | rfl | rfl | rfl <;> decide +kernel, by decide +kernel, ?_⟩
    by_cases c7 : q = 0 ∨ q = 2
    · obtain ⟨ex, ey⟩ := at_inj hq (r := !r) (show at' q (!r) x4 y4 = at' q (!r) x2 (0 - y2) by rw [at_mirA c7]; omega)
      rw [ex, ey]
      have i1 : inD (PyData.str (hdS q)) [PyData.str (Str.ofString "n"), PyData.str (Str.ofString "s")] = false := by
        rcases c7 with rfl | rfl <;> decide +kernel
      rw [i1]
      refine ⟨_, at0, ?_⟩
      try simp only [sSeq, sAsg, sRet, sIf, sDrop, sNext, sNever, dOp, dUn, dVar, dC, dTest, isBool, dAnd, dOr, dNot, dAndV, dOrV, dNotV, dIf, dCons, dNil, dTup, dLst, dLstM, datas, dCall, dCB, gI0, gI, gB0, g1I, gAdd, gEqD, gNeD, gIx, gIn, g1A, g2A, gInt, gLen, gTuple, gSum, gBest, dSl, dNoPart, dPart, dgName, dgTup, dgCons, dgNil, dgSub, gSetI, dIndexT, dChain, startD, List.map_cons, List.map_nil, List.length_cons, List.length_nil, List.replicate, List.append, List.cons_append, List.nil_append, List.getElem?_cons_zero, List.getElem?_cons_succ, List.set_cons_zero, List.set_cons_succ, Option.some.injEq, Dv.d.injEq, Dv.r.injEq, PyData.tuple.injEq, PyData.list.injEq, PyData.str.injEq, PyData.int.injEq, exists_eq_left', Option.map_some, Nat.zero_add, Nat.reduceAdd, Nat.reduceSub, true_and, and_true, exists_and_left, at0, at1, at2, at3, at4, eqv_int, shaped_int, eqv_pr, shaped_pr, bes, intsD, in4, flat4, flatI, Bool.not_eq_true', decide_eq_false_iff_not, not_true_eq_false, if_true, if_false, Bool.not_true, Bool.not_false, Bool.false_eq_true, Bool.true_eq_false, Bool.or_eq_false_iff,  shaped_tn, shaped_hd, shaped_r, decide_eq_true_eq, sizeLine_eq, Nat.reduceLeDiff, Int.reduceToNat, Int.reducePow, Int.reduceMul, Int.reduceAdd, Int.reduceSub, Int.reduceNeg, Int.reduceMod, setM_same, MO.lst.injEq, setM_setM, ix0, ix1, ix2, ix3, ix4, dPick, keyOf, dSlT, dTupRng, gAppend, dAppend, g2B, dM1, eqv_tn, eqv_tnl, shaped_l, dSlM, g1N, dIsi, tyD, gListD, gListM, gTupleM, sPar, dgPair, isT_it, isT_is, isT_ib, isT_ii, isT_tt, gInS, sTry, xCall, xSeq, xIf, xThen, xRaise, dIsE, dNum, dRep1, gAddT, isT_ss, isT_st, isT_ts, dgAny, djNil, djStr, djFmt, gShow, gRmp, gSplit, gJoin, gIntS, gMulS, dAllG, dRev, gListD, gLenSetI, gLenSetT, dFreeze]
      exact z _ d1
    · obtain ⟨ex, ey⟩ := at_inj hq (r := !r) (show at' q (!r) x4 y4 = at' q (!r) (0 - x2) y2 by rw [at_mirB (by omega)]; omega)
      rw [ex, ey]
      have i1 : inD (PyData.str (hdS q)) [PyData.str (Str.ofString "n"), PyData.str (Str.ofString "s")] = true := by
        rcases (show q = 1 ∨ q = 3 by omega) with rfl | rfl <;> decide +kernel
      rw [i1]
      refine ⟨_, at1, ?_⟩
      try simp only [sSeq, sAsg, sRet, sIf, sDrop, sNext, sNever, dOp, dUn, dVar, dC, dTest, isBool, dAnd, dOr, dNot, dAndV, dOrV, dNotV, dIf, dCons, dNil, dTup, dLst, dLstM, datas, dCall, dCB, gI0, gI, gB0, g1I, gAdd, gEqD, gNeD, gIx, gIn, g1A, g2A, gInt, gLen, gTuple, gSum, gBest, dSl, dNoPart, dPart, dgName, dgTup, dgCons, dgNil, dgSub, gSetI, dIndexT, dChain, startD, List.map_cons, List.map_nil, List.length_cons, List.length_nil, List.replicate, List.append, List.cons_append, List.nil_append, List.getElem?_cons_zero, List.getElem?_cons_succ, List.set_cons_zero, List.set_cons_succ, Option.some.injEq, Dv.d.injEq, Dv.r.injEq, PyData.tuple.injEq, PyData.list.injEq, PyData.str.injEq, PyData.int.injEq, exists_eq_left', Option.map_some, Nat.zero_add, Nat.reduceAdd, Nat.reduceSub, true_and, and_true, exists_and_left, at0, at1, at2, at3, at4, eqv_int, shaped_int, eqv_pr, shaped_pr, bes, intsD, in4, flat4, flatI, Bool.not_eq_true', decide_eq_false_iff_not, not_true_eq_false, if_true, if_false, Bool.not_true, Bool.not_false, Bool.false_eq_true, Bool.true_eq_false, Bool.or_eq_false_iff,  shaped_tn, shaped_hd, shaped_r, decide_eq_true_eq, sizeLine_eq, Nat.reduceLeDiff, Int.reduceToNat, Int.reducePow, Int.reduceMul, Int.reduceAdd, Int.reduceSub, Int.reduceNeg, Int.reduceMod, setM_same, MO.lst.injEq, setM_setM, ix0, ix1, ix2, ix3, ix4, dPick, keyOf, dSlT, dTupRng, gAppend, dAppend, g2B, dM1, eqv_tn, eqv_tnl, shaped_l, dSlM, g1N, dIsi, tyD, gListD, gListM, gTupleM, sPar, dgPair, isT_it, isT_is, isT_ib, isT_ii, isT_tt, gInS, sTry, xCall, xSeq, xIf, xThen, xRaise, dIsE, dNum, dRep1, gAddT, isT_ss, isT_st, isT_ts, dgAny, djNil, djStr, djFmt, gShow, gRmp, gSplit, gJoin, gIntS, gMulS, dAllG, dRev, gListD, gLenSetI, gLenSetT, dFreeze]
      exact z _ d1
theorem sc_law : FnScope ["script", "deck", "turn", "spiral", "numbers", "k", "places", "number", "place", "after"] ["script"] (defScope s_law) := ⟨rfl, rfl, rfl, by decide +kernel, rfl, by decide +kernel, by decide +kernel⟩
theorem ok_law (T : Tx K mg base) : FnOk P w K mg base CX0 6 T.a_law T.fd_law ["script"] (spD K (F_law T.aP)) := by
  refine Fun.okD T.F_law sc_law mo_law (fun ds m Q h => ?_) (fun cdv A outer s H E hr => ?_)
  · unfold F_law at h; obtain ⟨ns, rfl, l, hP, z⟩ := h; rfl
  · refine ⟨_, (dss_cons (ds_set (i := 1) sc_law.nd rfl (by first | exact Or.inl rfl | exact Or.inr rfl) (de_call mo__law_deck ((ok__law_deck T).mono (by decide : 1 ≤ 5)) hr (by rfl) T.m__law_deck T.F__law_deck.kp T.n__law_deck (da_cons (dv 0) da_nil)))
      (dss_cons (ds_for PassesOwn.never rfl (di_range1 (by rfl) T.b_range (da_cons de_int da_nil)) (dg_name (i := 2) sc_law.nd rfl (by first | exact Or.inl rfl | exact Or.inr rfl)) (dss_cons (ds_set (i := 3) sc_law.nd rfl (by first | exact Or.inl rfl | exact Or.inr rfl) (de_call mo__law_spiral ((ok__law_spiral T).mono (by decide : 4 ≤ 5)) hr (by rfl) T.m__law_spiral T.F__law_spiral.kp T.n__law_spiral (da_cons (dv 1) da_nil)))
      (dss_cons (ds_if (dt_ne hr (de_call mo_read_spiral ((ok_read_spiral T).mono (by decide : 2 ≤ 5)) hr (by rfl) T.m_read_spiral T.F_read_spiral.kp T.n_read_spiral (da_cons (de_call mo_spiral_shown ((ok_spiral_shown T).mono (by decide : 1 ≤ 5)) hr (by rfl) T.m_spiral_shown T.F_spiral_shown.kp T.n_spiral_shown (da_cons (dv 3) da_nil)) da_nil)) (dv 3)) (dss_one (ds_ret de_bl)) dss_nil)
      (dss_cons (ds_setLc (k := 4) rfl sc_law.nd rfl rfl (sw_true rfl rfl rfl (by decide +kernel)) (di_range1 (by rfl) T.b_range (da_cons de_int da_nil)) (blkOk_by (own := [("k", 5)]) (N := ["script", "deck", "turn", "spiral", "numbers", "k", "places", "number", "place", "after"]) (sc := defScope s_law) (by decide +kernel)) rfl (fun _ _ _ _ _ => rfl) (fun _ _ _ _ _ => dts_nil) (fun _ _ _ _ _ => (de_add (de_ix (dv 3) de_int) (de_call mo__law_far ((ok__law_far T).mono (by decide : 4 ≤ 5)) hr (by rfl) T.m__law_far T.F__law_far.kp T.n__law_far (da_cons (dv 1) (da_cons (de_pow de_int de_int) da_nil))))))
      (dss_cons (ds_setLc (k := 6) rfl sc_law.nd rfl rfl (sw_true rfl rfl rfl (by decide +kernel)) (di_list (dv 4)) (blkOk_by (own := [("number", 7)]) (N := ["script", "deck", "turn", "spiral", "numbers", "k", "places", "number", "place", "after"]) (sc := defScope s_law) (by decide +kernel)) rfl (fun _ _ _ _ _ => rfl) (fun _ _ _ _ _ => dts_nil) (fun _ _ _ _ _ => (de_call mo_place_of ((ok_place_of T).mono (by decide : 4 ≤ 5)) hr (by rfl) T.m_place_of T.F_place_of.kp T.n_place_of (da_cons (dv 3) (da_cons (dv 7) da_nil)))))
      (dss_cons (ds_for PassesOwn.never rfl (di_zip (by rfl) T.b_zip (da_cons (dv 4) (da_cons (dv 6) da_nil))) (dg_tup (n := 2) rfl (dgs_cons (dg_name (i := 7) sc_law.nd rfl (by first | exact Or.inl rfl | exact Or.inr rfl)) (dgs_cons (dg_name (i := 8) sc_law.nd rfl (by first | exact Or.inl rfl | exact Or.inr rfl)) dgs_nil))) (dss_cons (ds_set (i := 9) sc_law.nd rfl (by first | exact Or.inl rfl | exact Or.inr rfl) (de_call mo_place_of ((ok_place_of T).mono (by decide : 4 ≤ 5)) hr (by rfl) T.m_place_of T.F_place_of.kp T.n_place_of (da_cons (dv 3) (da_cons (de_add (dv 7) de_int) da_nil))))
      (dss_cons (ds_if (DW.dt (dw_or (dt_ne hr (de_add (de_abs (by rfl) T.b_abs (da_cons (de_sub (de_ix (dv 9) de_int) (de_ix (dv 8) de_int)) da_nil)) (de_abs (by rfl) T.b_abs (da_cons (de_sub (de_ix (dv 9) de_int) (de_ix (dv 8) de_int)) da_nil))) de_int) (dw_or1 (dt_ne hr (de_call mo_number_at ((ok_number_at T).mono (by decide : 3 ≤ 5)) hr (by rfl) T.m_number_at T.F_number_at.kp T.n_number_at (da_cons (dv 3) (da_cons (dv 8) da_nil))) (dv 7))))) (dss_one (ds_ret de_bl)) dss_nil)
      (dss_one (ds_if (dt_not (dt_val (de_call mo__law_otherwise_right ((ok__law_otherwise_right T).mono (by decide : 5 ≤ 5)) hr (by rfl) T.m__law_otherwise_right T.F__law_otherwise_right.kp T.n__law_otherwise_right (da_cons (dv 1) (da_cons (dv 3) (da_cons (dv 7) da_nil)))))) (dss_one (ds_ret de_bl)) dss_nil)))))
      (dss_cons (ds_if (dt_ne hr (de_lenSetT rfl (Nat.lt_of_le_of_lt (Nat.add_le_add_left (by decide : 3 ≤ 64) _) hr.units) (by rfl) T.b_len (by rfl) T.b_set (da_cons (dv 6) da_nil)) (de_lenSetI rfl (by rfl) T.b_len (by rfl) T.b_set (da_cons (dv 4) da_nil))) (dss_one (ds_ret de_bl)) dss_nil)
      (dss_cons (ds_set (i := 8) sc_law.nd rfl (by first | exact Or.inl rfl | exact Or.inr rfl) (de_call mo__law_any_place ((ok__law_any_place T).mono (by decide : 3 ≤ 5)) hr (by rfl) T.m__law_any_place T.F__law_any_place.kp T.n__law_any_place (da_cons (dv 1) da_nil)))
      (dss_cons (ds_set (i := 7) sc_law.nd rfl (by first | exact Or.inl rfl | exact Or.inr rfl) (de_call mo_number_at ((ok_number_at T).mono (by decide : 3 ≤ 5)) hr (by rfl) T.m_number_at T.F_number_at.kp T.n_number_at (da_cons (dv 3) (da_cons (dv 8) da_nil))))
      (dss_one (ds_if (DW.dt (dw_or (dt_lt (dv 7) (de_ix (dv 3) de_int)) (dw_or1 (dt_ne hr (de_call mo_place_of ((ok_place_of T).mono (by decide : 4 ≤ 5)) hr (by rfl) T.m_place_of T.F_place_of.kp T.n_place_of (da_cons (dv 3) (da_cons (dv 7) da_nil))) (dv 8))))) (dss_one (ds_ret de_bl)) dss_nil)))))))))))
      (dss_one (ds_ret de_bl)))), fun ds m Q h => ?_⟩
    obtain ⟨ns, rfl, l, hP, z⟩ := h
    try simp only [sSeq, sAsg, sRet, sIf, sDrop, sNext, sNever, dOp, dUn, dVar, dC, dTest, isBool, dAnd, dOr, dNot, dAndV, dOrV, dNotV, dIf, dCons, dNil, dTup, dLst, dLstM, datas, dCall, dCB, gI0, gI, gB0, g1I, gAdd, gEqD, gNeD, gIx, gIn, g1A, g2A, gInt, gLen, gTuple, gSum, gBest, dSl, dNoPart, dPart, dgName, dgTup, dgCons, dgNil, dgSub, gSetI, dIndexT, dChain, startD, List.map_cons, List.map_nil, List.length_cons, List.length_nil, List.replicate, List.append, List.cons_append, List.nil_append, List.getElem?_cons_zero, List.getElem?_cons_succ, List.set_cons_zero, List.set_cons_succ, Option.some.injEq, Dv.d.injEq, Dv.r.injEq, PyData.tuple.injEq, PyData.list.injEq, PyData.str.injEq, PyData.int.injEq, exists_eq_left', Option.map_some, Nat.zero_add, Nat.reduceAdd, Nat.reduceSub, true_and, and_true, exists_and_left, at0, at1, at2, at3, at4, eqv_int, shaped_int, eqv_pr, shaped_pr, bes, intsD, in4, flat4, flatI, Bool.not_eq_true', decide_eq_false_iff_not, not_true_eq_false, if_true, if_false, Bool.not_true, Bool.not_false, Bool.false_eq_true, Bool.true_eq_false, Bool.or_eq_false_iff,  shaped_tn, shaped_hd, shaped_r, decide_eq_true_eq, sizeLine_eq, Nat.reduceLeDiff, Int.reduceToNat, Int.reducePow, Int.reduceMul, Int.reduceAdd, Int.reduceSub, Int.reduceNeg, Int.reduceMod, setM_same, MO.lst.injEq, setM_setM, ix0, ix1, ix2, ix3, ix4, dPick, keyOf, dSlT, dTupRng, gAppend, dAppend, g2B, dM1, eqv_tn, eqv_tnl, shaped_l, dSlM, g1N, dIsi, tyD, gListD, gListM, gTupleM, sPar, dgPair, isT_it, isT_is, isT_ib, isT_ii, isT_tt, gInS, sTry, xCall, xSeq, xIf, xThen, xRaise, dIsE, dNum, dRep1, gAddT, isT_ss, isT_st, isT_ts, dgAny, djNil, djStr, djFmt, gShow, gRmp, gSplit, gJoin, gIntS, gMulS, dAllG, dRev, gListD, gLenSetI, gLenSetT, dFreeze]
    refine ⟨ns, rfl, l, fun p o hp hd => ?_⟩
    have pP : p ≠ T.aP := fun e => by rw [e, hP] at hp; cases hp
    try simp only [sSeq, sAsg, sRet, sIf, sDrop, sNext, sNever, dOp, dUn, dVar, dC, dTest, isBool, dAnd, dOr, dNot, dAndV, dOrV, dNotV, dIf, dCons, dNil, dTup, dLst, dLstM, datas, dCall, dCB, gI0, gI, gB0, g1I, gAdd, gEqD, gNeD, gIx, gIn, g1A, g2A, gInt, gLen, gTuple, gSum, gBest, dSl, dNoPart, dPart, dgName, dgTup, dgCons, dgNil, dgSub, gSetI, dIndexT, dChain, startD, List.map_cons, List.map_nil, List.length_cons, List.length_nil, List.replicate, List.append, List.cons_append, List.nil_append, List.getElem?_cons_zero, List.getElem?_cons_succ, List.set_cons_zero, List.set_cons_succ, Option.some.injEq, Dv.d.injEq, Dv.r.injEq, PyData.tuple.injEq, PyData.list.injEq, PyData.str.injEq, PyData.int.injEq, exists_eq_left', Option.map_some, Nat.zero_add, Nat.reduceAdd, Nat.reduceSub, true_and, and_true, exists_and_left, at0, at1, at2, at3, at4, eqv_int, shaped_int, eqv_pr, shaped_pr, bes, intsD, in4, flat4, flatI, Bool.not_eq_true', decide_eq_false_iff_not, not_true_eq_false, if_true, if_false, Bool.not_true, Bool.not_false, Bool.false_eq_true, Bool.true_eq_false, Bool.or_eq_false_iff,  shaped_tn, shaped_hd, shaped_r, decide_eq_true_eq, sizeLine_eq, Nat.reduceLeDiff, Int.reduceToNat, Int.reducePow, Int.reduceMul, Int.reduceAdd, Int.reduceSub, Int.reduceNeg, Int.reduceMod, setM_same, MO.lst.injEq, setM_setM, ix0, ix1, ix2, ix3, ix4, dPick, keyOf, dSlT, dTupRng, gAppend, dAppend, g2B, dM1, eqv_tn, eqv_tnl, shaped_l, dSlM, g1N, dIsi, tyD, gListD, gListM, gTupleM, sPar, dgPair, isT_it, isT_is, isT_ib, isT_ii, isT_tt, gInS, sTry, xCall, xSeq, xIf, xThen, xRaise, dIsE, dNum, dRep1, gAddT, isT_ss, isT_st, isT_ts, dgAny, djNil, djStr, djFmt, gShow, gRmp, gSplit, gJoin, gIntS, gMulS, dAllG, dRev, gListD, gLenSetI, gLenSetT, dFreeze]
    refine for_rng 5 (fun R hR => ⟨5, rfl, by decide, hR⟩) (fun i δ m' => ∃ (v2 v3 v4 v5 v6 v7 v8 v9 : Option Dv) (o' : MO), δ = [some (.d (.list (ns.map .int))), some (.r p), v2, v3, v4, v5, v6, v7, v8, v9] ∧ m' p = some o' ∧ DeckIs o' (100 * i) ∧ m' T.aP = some mTbl) ⟨_, _, _, _, _, _, _, _, o, rfl, setM_same, hd, by rw [setM_ne (Ne.symm pP)]; exact hP⟩ ?_ ?_
    · rintro i δ m' hi ⟨v2, v3, v4, v5, v6, v7, v8, v9, o', rfl, mp, d', mP⟩
      try simp only [sSeq, sAsg, sRet, sIf, sDrop, sNext, sNever, dOp, dUn, dVar, dC, dTest, isBool, dAnd, dOr, dNot, dAndV, dOrV, dNotV, dIf, dCons, dNil, dTup, dLst, dLstM, datas, dCall, dCB, gI0, gI, gB0, g1I, gAdd, gEqD, gNeD, gIx, gIn, g1A, g2A, gInt, gLen, gTuple, gSum, gBest, dSl, dNoPart, dPart, dgName, dgTup, dgCons, dgNil, dgSub, gSetI, dIndexT, dChain, startD, List.map_cons, List.map_nil, List.length_cons, List.length_nil, List.replicate, List.append, List.cons_append, List.nil_append, List.getElem?_cons_zero, List.getElem?_cons_succ, List.set_cons_zero, List.set_cons_succ, Option.some.injEq, Dv.d.injEq, Dv.r.injEq, PyData.tuple.injEq, PyData.list.injEq, PyData.str.injEq, PyData.int.injEq, exists_eq_left', Option.map_some, Nat.zero_add, Nat.reduceAdd, Nat.reduceSub, true_and, and_true, exists_and_left, at0, at1, at2, at3, at4, eqv_int, shaped_int, eqv_pr, shaped_pr, bes, intsD, in4, flat4, flatI, Bool.not_eq_true', decide_eq_false_iff_not, not_true_eq_false, if_true, if_false, Bool.not_true, Bool.not_false, Bool.false_eq_true, Bool.true_eq_false, Bool.or_eq_false_iff,  shaped_tn, shaped_hd, shaped_r, decide_eq_true_eq, sizeLine_eq, Nat.reduceLeDiff, Int.reduceToNat, Int.reducePow, Int.reduceMul, Int.reduceAdd, Int.reduceSub, Int.reduceNeg, Int.reduceMod, setM_same, MO.lst.injEq, setM_setM, ix0, ix1, ix2, ix3, ix4, dPick, keyOf, dSlT, dTupRng, gAppend, dAppend, g2B, dM1, eqv_tn, eqv_tnl, shaped_l, dSlM, g1N, dIsi, tyD, gListD, gListM, gTupleM, sPar, dgPair, isT_it, isT_is, isT_ib, isT_ii, isT_tt, gInS, sTry, xCall, xSeq, xIf, xThen, xRaise, dIsE, dNum, dRep1, gAddT, isT_ss, isT_st, isT_ts, dgAny, djNil, djStr, djFmt, gShow, gRmp, gSplit, gJoin, gIntS, gMulS, dAllG, dRev, gListD, gLenSetI, gLenSetT, dFreeze]
      refine ⟨p, _, _, rfl, mp, d', by omega, fun s q r o1 hs hq d1 => ?_⟩
      have hsn : Sn s := by omega
      try simp only [sSeq, sAsg, sRet, sIf, sDrop, sNext, sNever, dOp, dUn, dVar, dC, dTest, isBool, dAnd, dOr, dNot, dAndV, dOrV, dNotV, dIf, dCons, dNil, dTup, dLst, dLstM, datas, dCall, dCB, gI0, gI, gB0, g1I, gAdd, gEqD, gNeD, gIx, gIn, g1A, g2A, gInt, gLen, gTuple, gSum, gBest, dSl, dNoPart, dPart, dgName, dgTup, dgCons, dgNil, dgSub, gSetI, dIndexT, dChain, startD, List.map_cons, List.map_nil, List.length_cons, List.length_nil, List.replicate, List.append, List.cons_append, List.nil_append, List.getElem?_cons_zero, List.getElem?_cons_succ, List.set_cons_zero, List.set_cons_succ, Option.some.injEq, Dv.d.injEq, Dv.r.injEq, PyData.tuple.injEq, PyData.list.injEq, PyData.str.injEq, PyData.int.injEq, exists_eq_left', Option.map_some, Nat.zero_add, Nat.reduceAdd, Nat.reduceSub, true_and, and_true, exists_and_left, at0, at1, at2, at3, at4, eqv_int, shaped_int, eqv_pr, shaped_pr, bes, intsD, in4, flat4, flatI, Bool.not_eq_true', decide_eq_false_iff_not, not_true_eq_false, if_true, if_false, Bool.not_true, Bool.not_false, Bool.false_eq_true, Bool.true_eq_false, Bool.or_eq_false_iff,  shaped_tn, shaped_hd, shaped_r, decide_eq_true_eq, sizeLine_eq, Nat.reduceLeDiff, Int.reduceToNat, Int.reducePow, Int.reduceMul, Int.reduceAdd, Int.reduceSub, Int.reduceNeg, Int.reduceMod, setM_same, MO.lst.injEq, setM_setM, ix0, ix1, ix2, ix3, ix4, dPick, keyOf, dSlT, dTupRng, gAppend, dAppend, g2B, dM1, eqv_tn, eqv_tnl, shaped_l, dSlM, g1N, dIsi, tyD, gListD, gListM, gTupleM, sPar, dgPair, isT_it, isT_is, isT_ib, isT_ii, isT_tt, gInS, sTry, xCall, xSeq, xIf, xThen, xRaise, dIsE, dNum, dRep1, gAddT, isT_ss, isT_st, isT_ts, dgAny, djNil, djStr, djFmt, gShow, gRmp, gSplit, gJoin, gIntS, gMulS, dAllG, dRev, gListD, gLenSetI, gLenSetT, dFreeze]
      refine ⟨s, q, r, rfl, hsn, s, q, r, rfl, hq, hsn, by rw [setM_ne (Ne.symm pP)]; exact mP, ?_⟩
      try simp only [sSeq, sAsg, sRet, sIf, sDrop, sNext, sNever, dOp, dUn, dVar, dC, dTest, isBool, dAnd, dOr, dNot, dAndV, dOrV, dNotV, dIf, dCons, dNil, dTup, dLst, dLstM, datas, dCall, dCB, gI0, gI, gB0, g1I, gAdd, gEqD, gNeD, gIx, gIn, g1A, g2A, gInt, gLen, gTuple, gSum, gBest, dSl, dNoPart, dPart, dgName, dgTup, dgCons, dgNil, dgSub, gSetI, dIndexT, dChain, startD, List.map_cons, List.map_nil, List.length_cons, List.length_nil, List.replicate, List.append, List.cons_append, List.nil_append, List.getElem?_cons_zero, List.getElem?_cons_succ, List.set_cons_zero, List.set_cons_succ, Option.some.injEq, Dv.d.injEq, Dv.r.injEq, PyData.tuple.injEq, PyData.list.injEq, PyData.str.injEq, PyData.int.injEq, exists_eq_left', Option.map_some, Nat.zero_add, Nat.reduceAdd, Nat.reduceSub, true_and, and_true, exists_and_left, at0, at1, at2, at3, at4, eqv_int, shaped_int, eqv_pr, shaped_pr, bes, intsD, in4, flat4, flatI, Bool.not_eq_true', decide_eq_false_iff_not, not_true_eq_false, if_true, if_false, Bool.not_true, Bool.not_false, Bool.false_eq_true, Bool.true_eq_false, Bool.or_eq_false_iff,  shaped_tn, shaped_hd, shaped_r, decide_eq_true_eq, sizeLine_eq, Nat.reduceLeDiff, Int.reduceToNat, Int.reducePow, Int.reduceMul, Int.reduceAdd, Int.reduceSub, Int.reduceNeg, Int.reduceMod, setM_same, MO.lst.injEq, setM_setM, ix0, ix1, ix2, ix3, ix4, dPick, keyOf, dSlT, dTupRng, gAppend, dAppend, g2B, dM1, eqv_tn, eqv_tnl, shaped_l, dSlM, g1N, dIsi, tyD, gListD, gListM, gTupleM, sPar, dgPair, isT_it, isT_is, isT_ib, isT_ii, isT_tt, gInS, sTry, xCall, xSeq, xIf, xThen, xRaise, dIsE, dNum, dRep1, gAddT, isT_ss, isT_st, isT_ts, dgAny, djNil, djStr, djFmt, gShow, gRmp, gSplit, gJoin, gIntS, gMulS, dAllG, dRev, gListD, gLenSetI, gLenSetT, dFreeze]
      have s3 : SeqAt.shaped (PyData.tuple [PyData.int s, PyData.str (hdS q), PyData.str (tnS r)]) = true := by
        rcases (show q = 0 ∨ q = 1 ∨ q = 2 ∨ q = 3 by omega) with rfl | rfl | rfl | rfl <;> cases r <;> (unfold SeqAt.shaped; simp [PyData.canLay0, PyData.canLayAll0, PyData.depth, PyData.depthAll]; try decide +kernel)
      refine ⟨s3, s3, ?_⟩
      rw [if_neg (fun h => Bool.noConfusion ((K11.eqv_same s3).symm.trans h))]
      show dRng1 _ _ _ _
      unfold dRng1
      try simp only [sSeq, sAsg, sRet, sIf, sDrop, sNext, sNever, dOp, dUn, dVar, dC, dTest, isBool, dAnd, dOr, dNot, dAndV, dOrV, dNotV, dIf, dCons, dNil, dTup, dLst, dLstM, datas, dCall, dCB, gI0, gI, gB0, g1I, gAdd, gEqD, gNeD, gIx, gIn, g1A, g2A, gInt, gLen, gTuple, gSum, gBest, dSl, dNoPart, dPart, dgName, dgTup, dgCons, dgNil, dgSub, gSetI, dIndexT, dChain, startD, List.map_cons, List.map_nil, List.length_cons, List.length_nil, List.replicate, List.append, List.cons_append, List.nil_append, List.getElem?_cons_zero, List.getElem?_cons_succ, List.set_cons_zero, List.set_cons_succ, Option.some.injEq, Dv.d.injEq, Dv.r.injEq, PyData.tuple.injEq, PyData.list.injEq, PyData.str.injEq, PyData.int.injEq, exists_eq_left', Option.map_some, Nat.zero_add, Nat.reduceAdd, Nat.reduceSub, true_and, and_true, exists_and_left, at0, at1, at2, at3, at4, eqv_int, shaped_int, eqv_pr, shaped_pr, bes, intsD, in4, flat4, flatI, Bool.not_eq_true', decide_eq_false_iff_not, not_true_eq_false, if_true, if_false, Bool.not_true, Bool.not_false, Bool.false_eq_true, Bool.true_eq_false, Bool.or_eq_false_iff,  shaped_tn, shaped_hd, shaped_r, decide_eq_true_eq, sizeLine_eq, Nat.reduceLeDiff, Int.reduceToNat, Int.reducePow, Int.reduceMul, Int.reduceAdd, Int.reduceSub, Int.reduceNeg, Int.reduceMod, setM_same, MO.lst.injEq, setM_setM, ix0, ix1, ix2, ix3, ix4, dPick, keyOf, dSlT, dTupRng, gAppend, dAppend, g2B, dM1, eqv_tn, eqv_tnl, shaped_l, dSlM, g1N, dIsi, tyD, gListD, gListM, gTupleM, sPar, dgPair, isT_it, isT_is, isT_ib, isT_ii, isT_tt, gInS, sTry, xCall, xSeq, xIf, xThen, xRaise, dIsE, dNum, dRep1, gAddT, isT_ss, isT_st, isT_ts, dgAny, djNil, djStr, djFmt, gShow, gRmp, gSplit, gJoin, gIntS, gMulS, dAllG, dRev, gListD, gLenSetI, gLenSetT, dFreeze]
      refine ⟨6, rfl, by decide, by simp, fun D hD => ?_⟩
      have hpD : p ≠ D := fun e => by rw [← e, setM_same] at hD; cases hD
      have hDm : m' D = none := by rw [setM_ne (Ne.symm hpD)] at hD; exact hD
      refine ⟨fun j acc m2 => ∃ o2, m2 = setM m' p o2 ∧ DeckIs o2 (100 * i + 9 + 12 * j) ∧ acc.length = j ∧ ∃ L : List Int, acc = L.map .int ∧ ∀ a ∈ L, s ≤ a ∧ a - s < 10 ^ 18, ⟨o1, rfl, d1, rfl, [], rfl, by simp⟩, ?_, ?_, ?_⟩
      · rintro j acc m2 ⟨o2, rfl, d2, hla, L, rfl, hA⟩
        first | exact ⟨by rw [setM_ne (Ne.symm hpD)]; exact hDm, trivial⟩ | (rw [setM_ne (Ne.symm hpD)]; exact hDm)
      · rintro j x acc m2 hx ⟨o2, rfl, d2, hla, L, rfl, hA⟩
        have hj : j < 6 := by have := (List.getElem?_eq_some_iff.mp hx).1; simpa using this
        simp only [wipeD, dYes, if_true]
        try simp only [sSeq, sAsg, sRet, sIf, sDrop, sNext, sNever, dOp, dUn, dVar, dC, dTest, isBool, dAnd, dOr, dNot, dAndV, dOrV, dNotV, dIf, dCons, dNil, dTup, dLst, dLstM, datas, dCall, dCB, gI0, gI, gB0, g1I, gAdd, gEqD, gNeD, gIx, gIn, g1A, g2A, gInt, gLen, gTuple, gSum, gBest, dSl, dNoPart, dPart, dgName, dgTup, dgCons, dgNil, dgSub, gSetI, dIndexT, dChain, startD, List.map_cons, List.map_nil, List.length_cons, List.length_nil, List.replicate, List.append, List.cons_append, List.nil_append, List.getElem?_cons_zero, List.getElem?_cons_succ, List.set_cons_zero, List.set_cons_succ, Option.some.injEq, Dv.d.injEq, Dv.r.injEq, PyData.tuple.injEq, PyData.list.injEq, PyData.str.injEq, PyData.int.injEq, exists_eq_left', Option.map_some, Nat.zero_add, Nat.reduceAdd, Nat.reduceSub, true_and, and_true, exists_and_left, at0, at1, at2, at3, at4, eqv_int, shaped_int, eqv_pr, shaped_pr, bes, intsD, in4, flat4, flatI, Bool.not_eq_true', decide_eq_false_iff_not, not_true_eq_false, if_true, if_false, Bool.not_true, Bool.not_false, Bool.false_eq_true, Bool.true_eq_false, Bool.or_eq_false_iff,  shaped_tn, shaped_hd, shaped_r, decide_eq_true_eq, sizeLine_eq, Nat.reduceLeDiff, Int.reduceToNat, Int.reducePow, Int.reduceMul, Int.reduceAdd, Int.reduceSub, Int.reduceNeg, Int.reduceMod, setM_same, MO.lst.injEq, setM_setM, ix0, ix1, ix2, ix3, ix4, dPick, keyOf, dSlT, dTupRng, gAppend, dAppend, g2B, dM1, eqv_tn, eqv_tnl, shaped_l, dSlM, g1N, dIsi, tyD, gListD, gListM, gTupleM, sPar, dgPair, isT_it, isT_is, isT_ib, isT_ii, isT_tt, gInS, sTry, xCall, xSeq, xIf, xThen, xRaise, dIsE, dNum, dRep1, gAddT, isT_ss, isT_st, isT_ts, dgAny, djNil, djStr, djFmt, gShow, gRmp, gSplit, gJoin, gIntS, gMulS, dAllG, dRev, gListD, gLenSetI, gLenSetT, dFreeze]
        have hla : L.length = j := by simpa using hla
        refine ⟨by unfold CPow; decide, p, _, _, _, rfl, by decide, by rw [setM_ne hpD]; exact setM_same, d2, by omega, fun v o3 l3 u3 d3 => ?_⟩
        try simp only [sSeq, sAsg, sRet, sIf, sDrop, sNext, sNever, dOp, dUn, dVar, dC, dTest, isBool, dAnd, dOr, dNot, dAndV, dOrV, dNotV, dIf, dCons, dNil, dTup, dLst, dLstM, datas, dCall, dCB, gI0, gI, gB0, g1I, gAdd, gEqD, gNeD, gIx, gIn, g1A, g2A, gInt, gLen, gTuple, gSum, gBest, dSl, dNoPart, dPart, dgName, dgTup, dgCons, dgNil, dgSub, gSetI, dIndexT, dChain, startD, List.map_cons, List.map_nil, List.length_cons, List.length_nil, List.replicate, List.append, List.cons_append, List.nil_append, List.getElem?_cons_zero, List.getElem?_cons_succ, List.set_cons_zero, List.set_cons_succ, Option.some.injEq, Dv.d.injEq, Dv.r.injEq, PyData.tuple.injEq, PyData.list.injEq, PyData.str.injEq, PyData.int.injEq, exists_eq_left', Option.map_some, Nat.zero_add, Nat.reduceAdd, Nat.reduceSub, true_and, and_true, exists_and_left, at0, at1, at2, at3, at4, eqv_int, shaped_int, eqv_pr, shaped_pr, bes, intsD, in4, flat4, flatI, Bool.not_eq_true', decide_eq_false_iff_not, not_true_eq_false, if_true, if_false, Bool.not_true, Bool.not_false, Bool.false_eq_true, Bool.true_eq_false, Bool.or_eq_false_iff,  shaped_tn, shaped_hd, shaped_r, decide_eq_true_eq, sizeLine_eq, Nat.reduceLeDiff, Int.reduceToNat, Int.reducePow, Int.reduceMul, Int.reduceAdd, Int.reduceSub, Int.reduceNeg, Int.reduceMod, setM_same, MO.lst.injEq, setM_setM, ix0, ix1, ix2, ix3, ix4, dPick, keyOf, dSlT, dTupRng, gAppend, dAppend, g2B, dM1, eqv_tn, eqv_tnl, shaped_l, dSlM, g1N, dIsi, tyD, gListD, gListM, gTupleM, sPar, dgPair, isT_it, isT_is, isT_ib, isT_ii, isT_tt, gInS, sTry, xCall, xSeq, xIf, xThen, xRaise, dIsE, dNum, dRep1, gAddT, isT_ss, isT_st, isT_ts, dgAny, djNil, djStr, djFmt, gShow, gRmp, gSplit, gJoin, gIntS, gMulS, dAllG, dRev, gListD, gLenSetI, gLenSetT, dFreeze]
        refine ⟨by rw [setM_ne (Ne.symm hpD)]; exact setM_same, o3, del_draw hpD hDm, d3.mono (by omega), by simp [hla], L ++ [s + v], by simp, fun a ha => ?_⟩
        rcases List.mem_append.mp ha with h | h
        · exact hA a h
        · simp only [List.mem_cons, List.not_mem_nil, or_false] at h
          subst h
          omega
      · rintro acc m2 ⟨o2, rfl, d2, hla, L, rfl, hA⟩
        have hla : L.length = 6 := by simpa using hla
        have d2 : DeckIs o2 (100 * i + 9 + 72) := by simpa using d2
        clear hD hpD hDm
        try simp only [sSeq, sAsg, sRet, sIf, sDrop, sNext, sNever, dOp, dUn, dVar, dC, dTest, isBool, dAnd, dOr, dNot, dAndV, dOrV, dNotV, dIf, dCons, dNil, dTup, dLst, dLstM, datas, dCall, dCB, gI0, gI, gB0, g1I, gAdd, gEqD, gNeD, gIx, gIn, g1A, g2A, gInt, gLen, gTuple, gSum, gBest, dSl, dNoPart, dPart, dgName, dgTup, dgCons, dgNil, dgSub, gSetI, dIndexT, dChain, startD, List.map_cons, List.map_nil, List.length_cons, List.length_nil, List.replicate, List.append, List.cons_append, List.nil_append, List.getElem?_cons_zero, List.getElem?_cons_succ, List.set_cons_zero, List.set_cons_succ, Option.some.injEq, Dv.d.injEq, Dv.r.injEq, PyData.tuple.injEq, PyData.list.injEq, PyData.str.injEq, PyData.int.injEq, exists_eq_left', Option.map_some, Nat.zero_add, Nat.reduceAdd, Nat.reduceSub, true_and, and_true, exists_and_left, at0, at1, at2, at3, at4, eqv_int, shaped_int, eqv_pr, shaped_pr, bes, intsD, in4, flat4, flatI, Bool.not_eq_true', decide_eq_false_iff_not, not_true_eq_false, if_true, if_false, Bool.not_true, Bool.not_false, Bool.false_eq_true, Bool.true_eq_false, Bool.or_eq_false_iff,  shaped_tn, shaped_hd, shaped_r, decide_eq_true_eq, sizeLine_eq, Nat.reduceLeDiff, Int.reduceToNat, Int.reducePow, Int.reduceMul, Int.reduceAdd, Int.reduceSub, Int.reduceNeg, Int.reduceMod, setM_same, MO.lst.injEq, setM_setM, ix0, ix1, ix2, ix3, ix4, dPick, keyOf, dSlT, dTupRng, gAppend, dAppend, g2B, dM1, eqv_tn, eqv_tnl, shaped_l, dSlM, g1N, dIsi, tyD, gListD, gListM, gTupleM, sPar, dgPair, isT_it, isT_is, isT_ib, isT_ii, isT_tt, gInS, sTry, xCall, xSeq, xIf, xThen, xRaise, dIsE, dNum, dRep1, gAddT, isT_ss, isT_st, isT_ts, dgAny, djNil, djStr, djFmt, gShow, gRmp, gSplit, gJoin, gIntS, gMulS, dAllG, dRev, gListD, gLenSetI, gLenSetT, dFreeze]
        refine dLc_fm (plF s q r) ((L.map PyData.int).map Dv.d) (fun R hR => ?_) (by rw [List.length_map, List.length_map, hla]; decide) ?_ ?_
        · unfold dItL
          try simp only [sSeq, sAsg, sRet, sIf, sDrop, sNext, sNever, dOp, dUn, dVar, dC, dTest, isBool, dAnd, dOr, dNot, dAndV, dOrV, dNotV, dIf, dCons, dNil, dTup, dLst, dLstM, datas, dCall, dCB, gI0, gI, gB0, g1I, gAdd, gEqD, gNeD, gIx, gIn, g1A, g2A, gInt, gLen, gTuple, gSum, gBest, dSl, dNoPart, dPart, dgName, dgTup, dgCons, dgNil, dgSub, gSetI, dIndexT, dChain, startD, List.map_cons, List.map_nil, List.length_cons, List.length_nil, List.replicate, List.append, List.cons_append, List.nil_append, List.getElem?_cons_zero, List.getElem?_cons_succ, List.set_cons_zero, List.set_cons_succ, Option.some.injEq, Dv.d.injEq, Dv.r.injEq, PyData.tuple.injEq, PyData.list.injEq, PyData.str.injEq, PyData.int.injEq, exists_eq_left', Option.map_some, Nat.zero_add, Nat.reduceAdd, Nat.reduceSub, true_and, and_true, exists_and_left, at0, at1, at2, at3, at4, eqv_int, shaped_int, eqv_pr, shaped_pr, bes, intsD, in4, flat4, flatI, Bool.not_eq_true', decide_eq_false_iff_not, not_true_eq_false, if_true, if_false, Bool.not_true, Bool.not_false, Bool.false_eq_true, Bool.true_eq_false, Bool.or_eq_false_iff,  shaped_tn, shaped_hd, shaped_r, decide_eq_true_eq, sizeLine_eq, Nat.reduceLeDiff, Int.reduceToNat, Int.reducePow, Int.reduceMul, Int.reduceAdd, Int.reduceSub, Int.reduceNeg, Int.reduceMod, setM_same, MO.lst.injEq, setM_setM, ix0, ix1, ix2, ix3, ix4, dPick, keyOf, dSlT, dTupRng, gAppend, dAppend, g2B, dM1, eqv_tn, eqv_tnl, shaped_l, dSlM, g1N, dIsi, tyD, gListD, gListM, gTupleM, sPar, dgPair, isT_it, isT_is, isT_ib, isT_ii, isT_tt, gInS, sTry, xCall, xSeq, xIf, xThen, xRaise, dIsE, dNum, dRep1, gAddT, isT_ss, isT_st, isT_ts, dgAny, djNil, djStr, djFmt, gShow, gRmp, gSplit, gJoin, gIntS, gMulS, dAllG, dRev, gListD, gLenSetI, gLenSetT, dFreeze]
          exact hR
        · intro d hd m2 R S hR
          obtain ⟨e, he, rfl⟩ := List.mem_map.mp hd
          obtain ⟨a, ha, rfl⟩ := List.mem_map.mp he
          simp only [plF] at hR
          simp only [wipeD, dYes, if_true]
          try simp only [sSeq, sAsg, sRet, sIf, sDrop, sNext, sNever, dOp, dUn, dVar, dC, dTest, isBool, dAnd, dOr, dNot, dAndV, dOrV, dNotV, dIf, dCons, dNil, dTup, dLst, dLstM, datas, dCall, dCB, gI0, gI, gB0, g1I, gAdd, gEqD, gNeD, gIx, gIn, g1A, g2A, gInt, gLen, gTuple, gSum, gBest, dSl, dNoPart, dPart, dgName, dgTup, dgCons, dgNil, dgSub, gSetI, dIndexT, dChain, startD, List.map_cons, List.map_nil, List.length_cons, List.length_nil, List.replicate, List.append, List.cons_append, List.nil_append, List.getElem?_cons_zero, List.getElem?_cons_succ, List.set_cons_zero, List.set_cons_succ, Option.some.injEq, Dv.d.injEq, Dv.r.injEq, PyData.tuple.injEq, PyData.list.injEq, PyData.str.injEq, PyData.int.injEq, exists_eq_left', Option.map_some, Nat.zero_add, Nat.reduceAdd, Nat.reduceSub, true_and, and_true, exists_and_left, at0, at1, at2, at3, at4, eqv_int, shaped_int, eqv_pr, shaped_pr, bes, intsD, in4, flat4, flatI, Bool.not_eq_true', decide_eq_false_iff_not, not_true_eq_false, if_true, if_false, Bool.not_true, Bool.not_false, Bool.false_eq_true, Bool.true_eq_false, Bool.or_eq_false_iff,  shaped_tn, shaped_hd, shaped_r, decide_eq_true_eq, sizeLine_eq, Nat.reduceLeDiff, Int.reduceToNat, Int.reducePow, Int.reduceMul, Int.reduceAdd, Int.reduceSub, Int.reduceNeg, Int.reduceMod, setM_same, MO.lst.injEq, setM_setM, ix0, ix1, ix2, ix3, ix4, dPick, keyOf, dSlT, dTupRng, gAppend, dAppend, g2B, dM1, eqv_tn, eqv_tnl, shaped_l, dSlM, g1N, dIsi, tyD, gListD, gListM, gTupleM, sPar, dgPair, isT_it, isT_is, isT_ib, isT_ii, isT_tt, gInS, sTry, xCall, xSeq, xIf, xThen, xRaise, dIsE, dNum, dRep1, gAddT, isT_ss, isT_st, isT_ts, dgAny, djNil, djStr, djFmt, gShow, gRmp, gSplit, gJoin, gIntS, gMulS, dAllG, dRev, gListD, gLenSetI, gLenSetT, dFreeze]
          have := hA a ha
          refine ⟨s, q, r, a, rfl, hq, by omega, fun x y hxy => ?_⟩
          obtain ⟨rfl, rfl⟩ := pl_eq hq hxy
          exact hR
        · rw [plF_map]
          try simp only [sSeq, sAsg, sRet, sIf, sDrop, sNext, sNever, dOp, dUn, dVar, dC, dTest, isBool, dAnd, dOr, dNot, dAndV, dOrV, dNotV, dIf, dCons, dNil, dTup, dLst, dLstM, datas, dCall, dCB, gI0, gI, gB0, g1I, gAdd, gEqD, gNeD, gIx, gIn, g1A, g2A, gInt, gLen, gTuple, gSum, gBest, dSl, dNoPart, dPart, dgName, dgTup, dgCons, dgNil, dgSub, gSetI, dIndexT, dChain, startD, List.map_cons, List.map_nil, List.length_cons, List.length_nil, List.replicate, List.append, List.cons_append, List.nil_append, List.getElem?_cons_zero, List.getElem?_cons_succ, List.set_cons_zero, List.set_cons_succ, Option.some.injEq, Dv.d.injEq, Dv.r.injEq, PyData.tuple.injEq, PyData.list.injEq, PyData.str.injEq, PyData.int.injEq, exists_eq_left', Option.map_some, Nat.zero_add, Nat.reduceAdd, Nat.reduceSub, true_and, and_true, exists_and_left, at0, at1, at2, at3, at4, eqv_int, shaped_int, eqv_pr, shaped_pr, bes, intsD, in4, flat4, flatI, Bool.not_eq_true', decide_eq_false_iff_not, not_true_eq_false, if_true, if_false, Bool.not_true, Bool.not_false, Bool.false_eq_true, Bool.true_eq_false, Bool.or_eq_false_iff,  shaped_tn, shaped_hd, shaped_r, decide_eq_true_eq, sizeLine_eq, Nat.reduceLeDiff, Int.reduceToNat, Int.reducePow, Int.reduceMul, Int.reduceAdd, Int.reduceSub, Int.reduceNeg, Int.reduceMod, setM_same, MO.lst.injEq, setM_setM, ix0, ix1, ix2, ix3, ix4, dPick, keyOf, dSlT, dTupRng, gAppend, dAppend, g2B, dM1, eqv_tn, eqv_tnl, shaped_l, dSlM, g1N, dIsi, tyD, gListD, gListM, gTupleM, sPar, dgPair, isT_it, isT_is, isT_ib, isT_ii, isT_tt, gInS, sTry, xCall, xSeq, xIf, xThen, xRaise, dIsE, dNum, dRep1, gAddT, isT_ss, isT_st, isT_ts, dgAny, djNil, djStr, djFmt, gShow, gRmp, gSplit, gJoin, gIntS, gMulS, dAllG, dRev, gListD, gLenSetI, gLenSetT, dFreeze]
          refine for_out ?_
          unfold dZip
          try simp only [sSeq, sAsg, sRet, sIf, sDrop, sNext, sNever, dOp, dUn, dVar, dC, dTest, isBool, dAnd, dOr, dNot, dAndV, dOrV, dNotV, dIf, dCons, dNil, dTup, dLst, dLstM, datas, dCall, dCB, gI0, gI, gB0, g1I, gAdd, gEqD, gNeD, gIx, gIn, g1A, g2A, gInt, gLen, gTuple, gSum, gBest, dSl, dNoPart, dPart, dgName, dgTup, dgCons, dgNil, dgSub, gSetI, dIndexT, dChain, startD, List.map_cons, List.map_nil, List.length_cons, List.length_nil, List.replicate, List.append, List.cons_append, List.nil_append, List.getElem?_cons_zero, List.getElem?_cons_succ, List.set_cons_zero, List.set_cons_succ, Option.some.injEq, Dv.d.injEq, Dv.r.injEq, PyData.tuple.injEq, PyData.list.injEq, PyData.str.injEq, PyData.int.injEq, exists_eq_left', Option.map_some, Nat.zero_add, Nat.reduceAdd, Nat.reduceSub, true_and, and_true, exists_and_left, at0, at1, at2, at3, at4, eqv_int, shaped_int, eqv_pr, shaped_pr, bes, intsD, in4, flat4, flatI, Bool.not_eq_true', decide_eq_false_iff_not, not_true_eq_false, if_true, if_false, Bool.not_true, Bool.not_false, Bool.false_eq_true, Bool.true_eq_false, Bool.or_eq_false_iff,  shaped_tn, shaped_hd, shaped_r, decide_eq_true_eq, sizeLine_eq, Nat.reduceLeDiff, Int.reduceToNat, Int.reducePow, Int.reduceMul, Int.reduceAdd, Int.reduceSub, Int.reduceNeg, Int.reduceMod, setM_same, MO.lst.injEq, setM_setM, ix0, ix1, ix2, ix3, ix4, dPick, keyOf, dSlT, dTupRng, gAppend, dAppend, g2B, dM1, eqv_tn, eqv_tnl, shaped_l, dSlM, g1N, dIsi, tyD, gListD, gListM, gTupleM, sPar, dgPair, isT_it, isT_is, isT_ib, isT_ii, isT_tt, gInS, sTry, xCall, xSeq, xIf, xThen, xRaise, dIsE, dNum, dRep1, gAddT, isT_ss, isT_st, isT_ts, dgAny, djNil, djStr, djFmt, gShow, gRmp, gSplit, gJoin, gIntS, gMulS, dAllG, dRev, gListD, gLenSetI, gLenSetT, dFreeze]
          refine ⟨_, _, rfl, _, _, _, rfl, _, rfl, forB_its (fun j δ m2 => ∃ (w7 w8 w9 : Option Dv) (o3 : MO), δ = [some (.d (.list (ns.map .int))), some (.r p), some (.d (.int ((i : Nat) : Int))), some (spi s q r), some (.d (.list (L.map .int))), v5, some (.d (.list (L.map fun a => prD (px q r (a - s)) (py q r (a - s))))), w7, w8, w9] ∧ m2 = setM m' p o3 ∧ DeckIs o3 (100 * i + 9 + 72 + j)) ⟨_, _, _, o2, rfl, rfl, d2⟩ ?_ ?_⟩
          · rintro j d δ m2 hx ⟨w7, w8, w9, o3, rfl, rfl, d3⟩
            have hx : (zipD (L.map PyData.int) (L.map fun a => prD (px q r (a - s)) (py q r (a - s))))[j]? = some d := hx
            rw [K11.zip_same, List.getElem?_map] at hx
            obtain ⟨a, ha, rfl⟩ := Option.map_eq_some_iff.mp hx
            have hj : j < 6 := by rw [← hla]; exact (List.getElem?_eq_some_iff.mp ha).1
            have hAa := hA a (List.mem_of_getElem? ha)
            have hpl := pl_at hq r (n := a - s) (by omega)
            generalize px q r (a - s) = x at hpl ⊢
            generalize py q r (a - s) = y at hpl ⊢
            try simp only [sSeq, sAsg, sRet, sIf, sDrop, sNext, sNever, dOp, dUn, dVar, dC, dTest, isBool, dAnd, dOr, dNot, dAndV, dOrV, dNotV, dIf, dCons, dNil, dTup, dLst, dLstM, datas, dCall, dCB, gI0, gI, gB0, g1I, gAdd, gEqD, gNeD, gIx, gIn, g1A, g2A, gInt, gLen, gTuple, gSum, gBest, dSl, dNoPart, dPart, dgName, dgTup, dgCons, dgNil, dgSub, gSetI, dIndexT, dChain, startD, List.map_cons, List.map_nil, List.length_cons, List.length_nil, List.replicate, List.append, List.cons_append, List.nil_append, List.getElem?_cons_zero, List.getElem?_cons_succ, List.set_cons_zero, List.set_cons_succ, Option.some.injEq, Dv.d.injEq, Dv.r.injEq, PyData.tuple.injEq, PyData.list.injEq, PyData.str.injEq, PyData.int.injEq, exists_eq_left', Option.map_some, Nat.zero_add, Nat.reduceAdd, Nat.reduceSub, true_and, and_true, exists_and_left, at0, at1, at2, at3, at4, eqv_int, shaped_int, eqv_pr, shaped_pr, bes, intsD, in4, flat4, flatI, Bool.not_eq_true', decide_eq_false_iff_not, not_true_eq_false, if_true, if_false, Bool.not_true, Bool.not_false, Bool.false_eq_true, Bool.true_eq_false, Bool.or_eq_false_iff,  shaped_tn, shaped_hd, shaped_r, decide_eq_true_eq, sizeLine_eq, Nat.reduceLeDiff, Int.reduceToNat, Int.reducePow, Int.reduceMul, Int.reduceAdd, Int.reduceSub, Int.reduceNeg, Int.reduceMod, setM_same, MO.lst.injEq, setM_setM, ix0, ix1, ix2, ix3, ix4, dPick, keyOf, dSlT, dTupRng, gAppend, dAppend, g2B, dM1, eqv_tn, eqv_tnl, shaped_l, dSlM, g1N, dIsi, tyD, gListD, gListM, gTupleM, sPar, dgPair, isT_it, isT_is, isT_ib, isT_ii, isT_tt, gInS, sTry, xCall, xSeq, xIf, xThen, xRaise, dIsE, dNum, dRep1, gAddT, isT_ss, isT_st, isT_ts, dgAny, djNil, djStr, djFmt, gShow, gRmp, gSplit, gJoin, gIntS, gMulS, dAllG, dRev, gListD, gLenSetI, gLenSetT, dFreeze]
            obtain ⟨_, n1, n2, n3, n4⟩ := at_near hq (show at' q r x y < 2 ^ 118 by omega)
            refine ⟨s, q, r, a + 1, rfl, hq, by omega, fun x1 y1 h1 => ?_⟩
            have nx := at_nx hq (show at' q r x1 y1 = at' q r x y + 1 by omega)
            try simp only [sSeq, sAsg, sRet, sIf, sDrop, sNext, sNever, dOp, dUn, dVar, dC, dTest, isBool, dAnd, dOr, dNot, dAndV, dOrV, dNotV, dIf, dCons, dNil, dTup, dLst, dLstM, datas, dCall, dCB, gI0, gI, gB0, g1I, gAdd, gEqD, gNeD, gIx, gIn, g1A, g2A, gInt, gLen, gTuple, gSum, gBest, dSl, dNoPart, dPart, dgName, dgTup, dgCons, dgNil, dgSub, gSetI, dIndexT, dChain, startD, List.map_cons, List.map_nil, List.length_cons, List.length_nil, List.replicate, List.append, List.cons_append, List.nil_append, List.getElem?_cons_zero, List.getElem?_cons_succ, List.set_cons_zero, List.set_cons_succ, Option.some.injEq, Dv.d.injEq, Dv.r.injEq, PyData.tuple.injEq, PyData.list.injEq, PyData.str.injEq, PyData.int.injEq, exists_eq_left', Option.map_some, Nat.zero_add, Nat.reduceAdd, Nat.reduceSub, true_and, and_true, exists_and_left, at0, at1, at2, at3, at4, eqv_int, shaped_int, eqv_pr, shaped_pr, bes, intsD, in4, flat4, flatI, Bool.not_eq_true', decide_eq_false_iff_not, not_true_eq_false, if_true, if_false, Bool.not_true, Bool.not_false, Bool.false_eq_true, Bool.true_eq_false, Bool.or_eq_false_iff,  shaped_tn, shaped_hd, shaped_r, decide_eq_true_eq, sizeLine_eq, Nat.reduceLeDiff, Int.reduceToNat, Int.reducePow, Int.reduceMul, Int.reduceAdd, Int.reduceSub, Int.reduceNeg, Int.reduceMod, setM_same, MO.lst.injEq, setM_setM, ix0, ix1, ix2, ix3, ix4, dPick, keyOf, dSlT, dTupRng, gAppend, dAppend, g2B, dM1, eqv_tn, eqv_tnl, shaped_l, dSlM, g1N, dIsi, tyD, gListD, gListM, gTupleM, sPar, dgPair, isT_it, isT_is, isT_ib, isT_ii, isT_tt, gInS, sTry, xCall, xSeq, xIf, xThen, xRaise, dIsE, dNum, dRep1, gAddT, isT_ss, isT_st, isT_ts, dgAny, djNil, djStr, djFmt, gShow, gRmp, gSplit, gJoin, gIntS, gMulS, dAllG, dRev, gListD, gLenSetI, gLenSetT, dFreeze]
            rw [if_neg (by omega)]
            refine ⟨s, q, r, x, y, rfl, hq, by omega, ?_⟩
            try simp only [sSeq, sAsg, sRet, sIf, sDrop, sNext, sNever, dOp, dUn, dVar, dC, dTest, isBool, dAnd, dOr, dNot, dAndV, dOrV, dNotV, dIf, dCons, dNil, dTup, dLst, dLstM, datas, dCall, dCB, gI0, gI, gB0, g1I, gAdd, gEqD, gNeD, gIx, gIn, g1A, g2A, gInt, gLen, gTuple, gSum, gBest, dSl, dNoPart, dPart, dgName, dgTup, dgCons, dgNil, dgSub, gSetI, dIndexT, dChain, startD, List.map_cons, List.map_nil, List.length_cons, List.length_nil, List.replicate, List.append, List.cons_append, List.nil_append, List.getElem?_cons_zero, List.getElem?_cons_succ, List.set_cons_zero, List.set_cons_succ, Option.some.injEq, Dv.d.injEq, Dv.r.injEq, PyData.tuple.injEq, PyData.list.injEq, PyData.str.injEq, PyData.int.injEq, exists_eq_left', Option.map_some, Nat.zero_add, Nat.reduceAdd, Nat.reduceSub, true_and, and_true, exists_and_left, at0, at1, at2, at3, at4, eqv_int, shaped_int, eqv_pr, shaped_pr, bes, intsD, in4, flat4, flatI, Bool.not_eq_true', decide_eq_false_iff_not, not_true_eq_false, if_true, if_false, Bool.not_true, Bool.not_false, Bool.false_eq_true, Bool.true_eq_false, Bool.or_eq_false_iff,  shaped_tn, shaped_hd, shaped_r, decide_eq_true_eq, sizeLine_eq, Nat.reduceLeDiff, Int.reduceToNat, Int.reducePow, Int.reduceMul, Int.reduceAdd, Int.reduceSub, Int.reduceNeg, Int.reduceMod, setM_same, MO.lst.injEq, setM_setM, ix0, ix1, ix2, ix3, ix4, dPick, keyOf, dSlT, dTupRng, gAppend, dAppend, g2B, dM1, eqv_tn, eqv_tnl, shaped_l, dSlM, g1N, dIsi, tyD, gListD, gListM, gTupleM, sPar, dgPair, isT_it, isT_is, isT_ib, isT_ii, isT_tt, gInS, sTry, xCall, xSeq, xIf, xThen, xRaise, dIsE, dNum, dRep1, gAddT, isT_ss, isT_st, isT_ts, dgAny, djNil, djStr, djFmt, gShow, gRmp, gSplit, gJoin, gIntS, gMulS, dAllG, dRev, gListD, gLenSetI, gLenSetT, dFreeze]
            rw [if_neg (by omega)]
            refine ⟨p, o3, _, s, q, r, a, rfl, setM_same, d3, by omega, hq, hs, by omega, fun o4 d4 => ?_⟩
            try simp only [sSeq, sAsg, sRet, sIf, sDrop, sNext, sNever, dOp, dUn, dVar, dC, dTest, isBool, dAnd, dOr, dNot, dAndV, dOrV, dNotV, dIf, dCons, dNil, dTup, dLst, dLstM, datas, dCall, dCB, gI0, gI, gB0, g1I, gAdd, gEqD, gNeD, gIx, gIn, g1A, g2A, gInt, gLen, gTuple, gSum, gBest, dSl, dNoPart, dPart, dgName, dgTup, dgCons, dgNil, dgSub, gSetI, dIndexT, dChain, startD, List.map_cons, List.map_nil, List.length_cons, List.length_nil, List.replicate, List.append, List.cons_append, List.nil_append, List.getElem?_cons_zero, List.getElem?_cons_succ, List.set_cons_zero, List.set_cons_succ, Option.some.injEq, Dv.d.injEq, Dv.r.injEq, PyData.tuple.injEq, PyData.list.injEq, PyData.str.injEq, PyData.int.injEq, exists_eq_left', Option.map_some, Nat.zero_add, Nat.reduceAdd, Nat.reduceSub, true_and, and_true, exists_and_left, at0, at1, at2, at3, at4, eqv_int, shaped_int, eqv_pr, shaped_pr, bes, intsD, in4, flat4, flatI, Bool.not_eq_true', decide_eq_false_iff_not, not_true_eq_false, if_true, if_false, Bool.not_true, Bool.not_false, Bool.false_eq_true, Bool.true_eq_false, Bool.or_eq_false_iff,  shaped_tn, shaped_hd, shaped_r, decide_eq_true_eq, sizeLine_eq, Nat.reduceLeDiff, Int.reduceToNat, Int.reducePow, Int.reduceMul, Int.reduceAdd, Int.reduceSub, Int.reduceNeg, Int.reduceMod, setM_same, MO.lst.injEq, setM_setM, ix0, ix1, ix2, ix3, ix4, dPick, keyOf, dSlT, dTupRng, gAppend, dAppend, g2B, dM1, eqv_tn, eqv_tnl, shaped_l, dSlM, g1N, dIsi, tyD, gListD, gListM, gTupleM, sPar, dgPair, isT_it, isT_is, isT_ib, isT_ii, isT_tt, gInS, sTry, xCall, xSeq, xIf, xThen, xRaise, dIsE, dNum, dRep1, gAddT, isT_ss, isT_st, isT_ts, dgAny, djNil, djStr, djFmt, gShow, gRmp, gSplit, gJoin, gIntS, gMulS, dAllG, dRev, gListD, gLenSetI, gLenSetT, dFreeze]
            exact ⟨_, _, _, rfl, o4, rfl, d4⟩
          · rintro δ m2 ⟨w7, w8, w9, o3, rfl, rfl, d3⟩
            have d3 : DeckIs o3 (100 * i + 9 + 72 + 6) := by
              have e : (zipD (L.map PyData.int) (L.map fun a => prD (px q r (a - s)) (py q r (a - s)))).length = 6 := by rw [K11.zip_same, List.length_map, hla]
              rw [e] at d3
              exact d3
            try simp only [sSeq, sAsg, sRet, sIf, sDrop, sNext, sNever, dOp, dUn, dVar, dC, dTest, isBool, dAnd, dOr, dNot, dAndV, dOrV, dNotV, dIf, dCons, dNil, dTup, dLst, dLstM, datas, dCall, dCB, gI0, gI, gB0, g1I, gAdd, gEqD, gNeD, gIx, gIn, g1A, g2A, gInt, gLen, gTuple, gSum, gBest, dSl, dNoPart, dPart, dgName, dgTup, dgCons, dgNil, dgSub, gSetI, dIndexT, dChain, startD, List.map_cons, List.map_nil, List.length_cons, List.length_nil, List.replicate, List.append, List.cons_append, List.nil_append, List.getElem?_cons_zero, List.getElem?_cons_succ, List.set_cons_zero, List.set_cons_succ, Option.some.injEq, Dv.d.injEq, Dv.r.injEq, PyData.tuple.injEq, PyData.list.injEq, PyData.str.injEq, PyData.int.injEq, exists_eq_left', Option.map_some, Nat.zero_add, Nat.reduceAdd, Nat.reduceSub, true_and, and_true, exists_and_left, at0, at1, at2, at3, at4, eqv_int, shaped_int, eqv_pr, shaped_pr, bes, intsD, in4, flat4, flatI, Bool.not_eq_true', decide_eq_false_iff_not, not_true_eq_false, if_true, if_false, Bool.not_true, Bool.not_false, Bool.false_eq_true, Bool.true_eq_false, Bool.or_eq_false_iff,  shaped_tn, shaped_hd, shaped_r, decide_eq_true_eq, sizeLine_eq, Nat.reduceLeDiff, Int.reduceToNat, Int.reducePow, Int.reduceMul, Int.reduceAdd, Int.reduceSub, Int.reduceNeg, Int.reduceMod, setM_same, MO.lst.injEq, setM_setM, ix0, ix1, ix2, ix3, ix4, dPick, keyOf, dSlT, dTupRng, gAppend, dAppend, g2B, dM1, eqv_tn, eqv_tnl, shaped_l, dSlM, g1N, dIsi, tyD, gListD, gListM, gTupleM, sPar, dgPair, isT_it, isT_is, isT_ib, isT_ii, isT_tt, gInS, sTry, xCall, xSeq, xIf, xThen, xRaise, dIsE, dNum, dRep1, gAddT, isT_ss, isT_st, isT_ts, dgAny, djNil, djStr, djFmt, gShow, gRmp, gSplit, gJoin, gIntS, gMulS, dAllG, dRev, gListD, gLenSetI, gLenSetT, dFreeze]
            refine ⟨L.map fun a => (px q r (a - s), py q r (a - s)), by rw [List.map_map]; rfl, by rw [List.length_map, hla]; decide, L, rfl, by omega, ?_⟩
            rw [if_neg (by rw [len_same hq r fun a ha => (hA a ha).1]; simp)]
            refine ⟨p, _, _, rfl, setM_same, d3, by omega, fun x y o4 hxy d4 => ?_⟩
            try simp only [sSeq, sAsg, sRet, sIf, sDrop, sNext, sNever, dOp, dUn, dVar, dC, dTest, isBool, dAnd, dOr, dNot, dAndV, dOrV, dNotV, dIf, dCons, dNil, dTup, dLst, dLstM, datas, dCall, dCB, gI0, gI, gB0, g1I, gAdd, gEqD, gNeD, gIx, gIn, g1A, g2A, gInt, gLen, gTuple, gSum, gBest, dSl, dNoPart, dPart, dgName, dgTup, dgCons, dgNil, dgSub, gSetI, dIndexT, dChain, startD, List.map_cons, List.map_nil, List.length_cons, List.length_nil, List.replicate, List.append, List.cons_append, List.nil_append, List.getElem?_cons_zero, List.getElem?_cons_succ, List.set_cons_zero, List.set_cons_succ, Option.some.injEq, Dv.d.injEq, Dv.r.injEq, PyData.tuple.injEq, PyData.list.injEq, PyData.str.injEq, PyData.int.injEq, exists_eq_left', Option.map_some, Nat.zero_add, Nat.reduceAdd, Nat.reduceSub, true_and, and_true, exists_and_left, at0, at1, at2, at3, at4, eqv_int, shaped_int, eqv_pr, shaped_pr, bes, intsD, in4, flat4, flatI, Bool.not_eq_true', decide_eq_false_iff_not, not_true_eq_false, if_true, if_false, Bool.not_true, Bool.not_false, Bool.false_eq_true, Bool.true_eq_false, Bool.or_eq_false_iff,  shaped_tn, shaped_hd, shaped_r, decide_eq_true_eq, sizeLine_eq, Nat.reduceLeDiff, Int.reduceToNat, Int.reducePow, Int.reduceMul, Int.reduceAdd, Int.reduceSub, Int.reduceNeg, Int.reduceMod, setM_same, MO.lst.injEq, setM_setM, ix0, ix1, ix2, ix3, ix4, dPick, keyOf, dSlT, dTupRng, gAppend, dAppend, g2B, dM1, eqv_tn, eqv_tnl, shaped_l, dSlM, g1N, dIsi, tyD, gListD, gListM, gTupleM, sPar, dgPair, isT_it, isT_is, isT_ib, isT_ii, isT_tt, gInS, sTry, xCall, xSeq, xIf, xThen, xRaise, dIsE, dNum, dRep1, gAddT, isT_ss, isT_st, isT_ts, dgAny, djNil, djStr, djFmt, gShow, gRmp, gSplit, gJoin, gIntS, gMulS, dAllG, dRev, gListD, gLenSetI, gLenSetT, dFreeze]
            refine ⟨s, q, r, x, y, rfl, hq, by omega, ?_⟩
            try simp only [sSeq, sAsg, sRet, sIf, sDrop, sNext, sNever, dOp, dUn, dVar, dC, dTest, isBool, dAnd, dOr, dNot, dAndV, dOrV, dNotV, dIf, dCons, dNil, dTup, dLst, dLstM, datas, dCall, dCB, gI0, gI, gB0, g1I, gAdd, gEqD, gNeD, gIx, gIn, g1A, g2A, gInt, gLen, gTuple, gSum, gBest, dSl, dNoPart, dPart, dgName, dgTup, dgCons, dgNil, dgSub, gSetI, dIndexT, dChain, startD, List.map_cons, List.map_nil, List.length_cons, List.length_nil, List.replicate, List.append, List.cons_append, List.nil_append, List.getElem?_cons_zero, List.getElem?_cons_succ, List.set_cons_zero, List.set_cons_succ, Option.some.injEq, Dv.d.injEq, Dv.r.injEq, PyData.tuple.injEq, PyData.list.injEq, PyData.str.injEq, PyData.int.injEq, exists_eq_left', Option.map_some, Nat.zero_add, Nat.reduceAdd, Nat.reduceSub, true_and, and_true, exists_and_left, at0, at1, at2, at3, at4, eqv_int, shaped_int, eqv_pr, shaped_pr, bes, intsD, in4, flat4, flatI, Bool.not_eq_true', decide_eq_false_iff_not, not_true_eq_false, if_true, if_false, Bool.not_true, Bool.not_false, Bool.false_eq_true, Bool.true_eq_false, Bool.or_eq_false_iff,  shaped_tn, shaped_hd, shaped_r, decide_eq_true_eq, sizeLine_eq, Nat.reduceLeDiff, Int.reduceToNat, Int.reducePow, Int.reduceMul, Int.reduceAdd, Int.reduceSub, Int.reduceNeg, Int.reduceMod, setM_same, MO.lst.injEq, setM_setM, ix0, ix1, ix2, ix3, ix4, dPick, keyOf, dSlT, dTupRng, gAppend, dAppend, g2B, dM1, eqv_tn, eqv_tnl, shaped_l, dSlM, g1N, dIsi, tyD, gListD, gListM, gTupleM, sPar, dgPair, isT_it, isT_is, isT_ib, isT_ii, isT_tt, gInS, sTry, xCall, xSeq, xIf, xThen, xRaise, dIsE, dNum, dRep1, gAddT, isT_ss, isT_st, isT_ts, dgAny, djNil, djStr, djFmt, gShow, gRmp, gSplit, gJoin, gIntS, gMulS, dAllG, dRev, gListD, gLenSetI, gLenSetT, dFreeze]
            have h0 := at_nonneg q r x y
            rw [if_neg (by omega)]
            have hF : at' q r x y < 2 ^ 118 := at_far hq r (by have := ring_cases x y; omega)
            refine ⟨s, q, r, _, rfl, hq, by omega, fun x5 y5 h5 => ?_⟩
            obtain ⟨ex, ey⟩ := at_inj hq (r := r) (show at' q r x5 y5 = at' q r x y by omega)
            rw [ex, ey]
            try simp only [sSeq, sAsg, sRet, sIf, sDrop, sNext, sNever, dOp, dUn, dVar, dC, dTest, isBool, dAnd, dOr, dNot, dAndV, dOrV, dNotV, dIf, dCons, dNil, dTup, dLst, dLstM, datas, dCall, dCB, gI0, gI, gB0, g1I, gAdd, gEqD, gNeD, gIx, gIn, g1A, g2A, gInt, gLen, gTuple, gSum, gBest, dSl, dNoPart, dPart, dgName, dgTup, dgCons, dgNil, dgSub, gSetI, dIndexT, dChain, startD, List.map_cons, List.map_nil, List.length_cons, List.length_nil, List.replicate, List.append, List.cons_append, List.nil_append, List.getElem?_cons_zero, List.getElem?_cons_succ, List.set_cons_zero, List.set_cons_succ, Option.some.injEq, Dv.d.injEq, Dv.r.injEq, PyData.tuple.injEq, PyData.list.injEq, PyData.str.injEq, PyData.int.injEq, exists_eq_left', Option.map_some, Nat.zero_add, Nat.reduceAdd, Nat.reduceSub, true_and, and_true, exists_and_left, at0, at1, at2, at3, at4, eqv_int, shaped_int, eqv_pr, shaped_pr, bes, intsD, in4, flat4, flatI, Bool.not_eq_true', decide_eq_false_iff_not, not_true_eq_false, if_true, if_false, Bool.not_true, Bool.not_false, Bool.false_eq_true, Bool.true_eq_false, Bool.or_eq_false_iff,  shaped_tn, shaped_hd, shaped_r, decide_eq_true_eq, sizeLine_eq, Nat.reduceLeDiff, Int.reduceToNat, Int.reducePow, Int.reduceMul, Int.reduceAdd, Int.reduceSub, Int.reduceNeg, Int.reduceMod, setM_same, MO.lst.injEq, setM_setM, ix0, ix1, ix2, ix3, ix4, dPick, keyOf, dSlT, dTupRng, gAppend, dAppend, g2B, dM1, eqv_tn, eqv_tnl, shaped_l, dSlM, g1N, dIsi, tyD, gListD, gListM, gTupleM, sPar, dgPair, isT_it, isT_is, isT_ib, isT_ii, isT_tt, gInS, sTry, xCall, xSeq, xIf, xThen, xRaise, dIsE, dNum, dRep1, gAddT, isT_ss, isT_st, isT_ts, dgAny, djNil, djStr, djFmt, gShow, gRmp, gSplit, gJoin, gIntS, gMulS, dAllG, dRev, gListD, gLenSetI, gLenSetT, dFreeze]
            exact ⟨_, _, _, _, _, _, _, _, rfl, d4.mono (by omega), by rw [setM_ne (Ne.symm pP)]; exact mP⟩
    · rintro δ m' ⟨v2, v3, v4, v5, v6, v7, v8, v9, o', rfl, mp, d', mP⟩
      try simp only [sSeq, sAsg, sRet, sIf, sDrop, sNext, sNever, dOp, dUn, dVar, dC, dTest, isBool, dAnd, dOr, dNot, dAndV, dOrV, dNotV, dIf, dCons, dNil, dTup, dLst, dLstM, datas, dCall, dCB, gI0, gI, gB0, g1I, gAdd, gEqD, gNeD, gIx, gIn, g1A, g2A, gInt, gLen, gTuple, gSum, gBest, dSl, dNoPart, dPart, dgName, dgTup, dgCons, dgNil, dgSub, gSetI, dIndexT, dChain, startD, List.map_cons, List.map_nil, List.length_cons, List.length_nil, List.replicate, List.append, List.cons_append, List.nil_append, List.getElem?_cons_zero, List.getElem?_cons_succ, List.set_cons_zero, List.set_cons_succ, Option.some.injEq, Dv.d.injEq, Dv.r.injEq, PyData.tuple.injEq, PyData.list.injEq, PyData.str.injEq, PyData.int.injEq, exists_eq_left', Option.map_some, Nat.zero_add, Nat.reduceAdd, Nat.reduceSub, true_and, and_true, exists_and_left, at0, at1, at2, at3, at4, eqv_int, shaped_int, eqv_pr, shaped_pr, bes, intsD, in4, flat4, flatI, Bool.not_eq_true', decide_eq_false_iff_not, not_true_eq_false, if_true, if_false, Bool.not_true, Bool.not_false, Bool.false_eq_true, Bool.true_eq_false, Bool.or_eq_false_iff,  shaped_tn, shaped_hd, shaped_r, decide_eq_true_eq, sizeLine_eq, Nat.reduceLeDiff, Int.reduceToNat, Int.reducePow, Int.reduceMul, Int.reduceAdd, Int.reduceSub, Int.reduceNeg, Int.reduceMod, setM_same, MO.lst.injEq, setM_setM, ix0, ix1, ix2, ix3, ix4, dPick, keyOf, dSlT, dTupRng, gAppend, dAppend, g2B, dM1, eqv_tn, eqv_tnl, shaped_l, dSlM, g1N, dIsi, tyD, gListD, gListM, gTupleM, sPar, dgPair, isT_it, isT_is, isT_ib, isT_ii, isT_tt, gInS, sTry, xCall, xSeq, xIf, xThen, xRaise, dIsE, dNum, dRep1, gAddT, isT_ss, isT_st, isT_ts, dgAny, djNil, djStr, djFmt, gShow, gRmp, gSplit, gJoin, gIntS, gMulS, dAllG, dRev, gListD, gLenSetI, gLenSetT, dFreeze]
      exact z _
end
theorem fin_mk {P : Program} {w : World} {K : PySem.W.Frag} {h : Heap} {mg : Str → Option Value} {fa : Addr} (X : K.In h) (G : h.Ns mainGlobals mg) (hfa : mg "law" = some (.ref fa))
    {a_is_written_number : Addr} {oc_is_written_number kV_is_written_number dc_is_written_number pm_is_written_number cd_is_written_number ct_is_written_number : Value} {od_is_written_number an_is_written_number : Option Addr} {sl_is_written_number : Array (Option Value)}
    {a_read_spiral : Addr} {oc_read_spiral kV_read_spiral dc_read_spiral pm_read_spiral cd_read_spiral ct_read_spiral : Value} {od_read_spiral an_read_spiral : Option Addr} {sl_read_spiral : Array (Option Value)}
    {a_spiral_shown : Addr} {oc_spiral_shown kV_spiral_shown dc_spiral_shown pm_spiral_shown cd_spiral_shown ct_spiral_shown : Value} {od_spiral_shown an_spiral_shown : Option Addr} {sl_spiral_shown : Array (Option Value)}
    {a_offset_of : Addr} {oc_offset_of kV_offset_of dc_offset_of pm_offset_of cd_offset_of ct_offset_of : Value} {od_offset_of an_offset_of : Option Addr} {sl_offset_of : Array (Option Value)}
    {a_whole_root : Addr} {oc_whole_root kV_whole_root dc_whole_root pm_whole_root cd_whole_root ct_whole_root : Value} {od_whole_root an_whole_root : Option Addr} {sl_whole_root : Array (Option Value)}
    {a_plain_ring : Addr} {oc_plain_ring kV_plain_ring dc_plain_ring pm_plain_ring cd_plain_ring ct_plain_ring : Value} {od_plain_ring an_plain_ring : Option Addr} {sl_plain_ring : Array (Option Value)}
    {a_plain_place : Addr} {oc_plain_place kV_plain_place dc_plain_place pm_plain_place cd_plain_place ct_plain_place : Value} {od_plain_place an_plain_place : Option Addr} {sl_plain_place : Array (Option Value)}
    {a_quarters_of : Addr} {oc_quarters_of kV_quarters_of dc_quarters_of pm_quarters_of cd_quarters_of ct_quarters_of : Value} {od_quarters_of an_quarters_of : Option Addr} {sl_quarters_of : Array (Option Value)}
    {a_turned_left : Addr} {oc_turned_left kV_turned_left dc_turned_left pm_turned_left cd_turned_left ct_turned_left : Value} {od_turned_left an_turned_left : Option Addr} {sl_turned_left : Array (Option Value)}
    {a_mirrored_by : Addr} {oc_mirrored_by kV_mirrored_by dc_mirrored_by pm_mirrored_by cd_mirrored_by ct_mirrored_by : Value} {od_mirrored_by an_mirrored_by : Option Addr} {sl_mirrored_by : Array (Option Value)}
    {a_from_plain : Addr} {oc_from_plain kV_from_plain dc_from_plain pm_from_plain cd_from_plain ct_from_plain : Value} {od_from_plain an_from_plain : Option Addr} {sl_from_plain : Array (Option Value)}
    {a_place_of : Addr} {oc_place_of kV_place_of dc_place_of pm_place_of cd_place_of ct_place_of : Value} {od_place_of an_place_of : Option Addr} {sl_place_of : Array (Option Value)}
    {a_plain_offset : Addr} {oc_plain_offset kV_plain_offset dc_plain_offset pm_plain_offset cd_plain_offset ct_plain_offset : Value} {od_plain_offset an_plain_offset : Option Addr} {sl_plain_offset : Array (Option Value)}
    {a_to_plain : Addr} {oc_to_plain kV_to_plain dc_to_plain pm_to_plain cd_to_plain ct_to_plain : Value} {od_to_plain an_to_plain : Option Addr} {sl_to_plain : Array (Option Value)}
    {a_number_at : Addr} {oc_number_at kV_number_at dc_number_at pm_number_at cd_number_at ct_number_at : Value} {od_number_at an_number_at : Option Addr} {sl_number_at : Array (Option Value)}
    {a__law_deck : Addr} {oc__law_deck kV__law_deck dc__law_deck pm__law_deck cd__law_deck ct__law_deck : Value} {od__law_deck an__law_deck : Option Addr} {sl__law_deck : Array (Option Value)}
    {a__law_mix : Addr} {oc__law_mix kV__law_mix dc__law_mix pm__law_mix cd__law_mix ct__law_mix : Value} {od__law_mix an__law_mix : Option Addr} {sl__law_mix : Array (Option Value)}
    {a__law_next : Addr} {oc__law_next kV__law_next dc__law_next pm__law_next cd__law_next ct__law_next : Value} {od__law_next an__law_next : Option Addr} {sl__law_next : Array (Option Value)}
    {a__law_great : Addr} {oc__law_great kV__law_great dc__law_great pm__law_great cd__law_great ct__law_great : Value} {od__law_great an__law_great : Option Addr} {sl__law_great : Array (Option Value)}
    {a__law_spiral : Addr} {oc__law_spiral kV__law_spiral dc__law_spiral pm__law_spiral cd__law_spiral ct__law_spiral : Value} {od__law_spiral an__law_spiral : Option Addr} {sl__law_spiral : Array (Option Value)}
    {a__law_far : Addr} {oc__law_far kV__law_far dc__law_far pm__law_far cd__law_far ct__law_far : Value} {od__law_far an__law_far : Option Addr} {sl__law_far : Array (Option Value)}
    {a__law_any_place : Addr} {oc__law_any_place kV__law_any_place dc__law_any_place pm__law_any_place cd__law_any_place ct__law_any_place : Value} {od__law_any_place an__law_any_place : Option Addr} {sl__law_any_place : Array (Option Value)}
    {a__law_left : Addr} {oc__law_left kV__law_left dc__law_left pm__law_left cd__law_left ct__law_left : Value} {od__law_left an__law_left : Option Addr} {sl__law_left : Array (Option Value)}
    {a__law_otherwise_right : Addr} {oc__law_otherwise_right kV__law_otherwise_right dc__law_otherwise_right pm__law_otherwise_right cd__law_otherwise_right ct__law_otherwise_right : Value} {od__law_otherwise_right an__law_otherwise_right : Option Addr} {sl__law_otherwise_right : Array (Option Value)}
    {a_law : Addr} {oc_law kV_law dc_law pm_law cd_law ct_law : Value} {od_law an_law : Option Addr} {sl_law : Array (Option Value)}
    {a_HEADINGS : Addr}
    {t0_HEADINGS t1_HEADINGS t2_HEADINGS t3_HEADINGS : Tok} {n_HEADINGS : Nat} {sl_HEADINGS : Array (Option Value)}
    {a_TURNS : Addr}
    {t0_TURNS t1_TURNS : Tok} {n_TURNS : Nat} {sl_TURNS : Array (Option Value)}
    {aP aC : Addr} {odC : Option Addr} {vsC : Array Value} {slC : Array (Option Value)} {fileC : Str} {tfC tgC ttC t_FIGURES : Tok} {flC txC : Int} {inC : Bool}
    (na_is_written_number : PySem.W.nsIn K mainGlobals "is_written_number" = some (some (.ref a_is_written_number))) (l_is_written_number : K.lookup a_is_written_number = some ⟨oc_is_written_number, od_is_written_number, .func (PySem.W.fnOf "is_written_number" "is_written_number" (defArgs s_is_written_number) (defBody s_is_written_number) (defScope s_is_written_number) .none kV_is_written_number dc_is_written_number pm_is_written_number an_is_written_number cd_is_written_number ct_is_written_number), sl_is_written_number⟩) (c_is_written_number : PySem.W.codeIn K cd_is_written_number "is_written_number" = true) (k_is_written_number : PySem.W.keepIn K (.ref a_is_written_number) = true)
    (na_read_spiral : PySem.W.nsIn K mainGlobals "read_spiral" = some (some (.ref a_read_spiral))) (l_read_spiral : K.lookup a_read_spiral = some ⟨oc_read_spiral, od_read_spiral, .func (PySem.W.fnOf "read_spiral" "read_spiral" (defArgs s_read_spiral) (defBody s_read_spiral) (defScope s_read_spiral) .none kV_read_spiral dc_read_spiral pm_read_spiral an_read_spiral cd_read_spiral ct_read_spiral), sl_read_spiral⟩) (c_read_spiral : PySem.W.codeIn K cd_read_spiral "read_spiral" = true) (k_read_spiral : PySem.W.keepIn K (.ref a_read_spiral) = true)
    (na_spiral_shown : PySem.W.nsIn K mainGlobals "spiral_shown" = some (some (.ref a_spiral_shown))) (l_spiral_shown : K.lookup a_spiral_shown = some ⟨oc_spiral_shown, od_spiral_shown, .func (PySem.W.fnOf "spiral_shown" "spiral_shown" (defArgs s_spiral_shown) (defBody s_spiral_shown) (defScope s_spiral_shown) .none kV_spiral_shown dc_spiral_shown pm_spiral_shown an_spiral_shown cd_spiral_shown ct_spiral_shown), sl_spiral_shown⟩) (c_spiral_shown : PySem.W.codeIn K cd_spiral_shown "spiral_shown" = true) (k_spiral_shown : PySem.W.keepIn K (.ref a_spiral_shown) = true)
    (na_offset_of : PySem.W.nsIn K mainGlobals "offset_of" = some (some (.ref a_offset_of))) (l_offset_of : K.lookup a_offset_of = some ⟨oc_offset_of, od_offset_of, .func (PySem.W.fnOf "offset_of" "offset_of" (defArgs s_offset_of) (defBody s_offset_of) (defScope s_offset_of) .none kV_offset_of dc_offset_of pm_offset_of an_offset_of cd_offset_of ct_offset_of), sl_offset_of⟩) (c_offset_of : PySem.W.codeIn K cd_offset_of "offset_of" = true) (k_offset_of : PySem.W.keepIn K (.ref a_offset_of) = true)
    (na_whole_root : PySem.W.nsIn K mainGlobals "whole_root" = some (some (.ref a_whole_root))) (l_whole_root : K.lookup a_whole_root = some ⟨oc_whole_root, od_whole_root, .func (PySem.W.fnOf "whole_root" "whole_root" (defArgs s_whole_root) (defBody s_whole_root) (defScope s_whole_root) .none kV_whole_root dc_whole_root pm_whole_root an_whole_root cd_whole_root ct_whole_root), sl_whole_root⟩) (c_whole_root : PySem.W.codeIn K cd_whole_root "whole_root" = true) (k_whole_root : PySem.W.keepIn K (.ref a_whole_root) = true)
    (na_plain_ring : PySem.W.nsIn K mainGlobals "plain_ring" = some (some (.ref a_plain_ring))) (l_plain_ring : K.lookup a_plain_ring = some ⟨oc_plain_ring, od_plain_ring, .func (PySem.W.fnOf "plain_ring" "plain_ring" (defArgs s_plain_ring) (defBody s_plain_ring) (defScope s_plain_ring) .none kV_plain_ring dc_plain_ring pm_plain_ring an_plain_ring cd_plain_ring ct_plain_ring), sl_plain_ring⟩) (c_plain_ring : PySem.W.codeIn K cd_plain_ring "plain_ring" = true) (k_plain_ring : PySem.W.keepIn K (.ref a_plain_ring) = true)
    (na_plain_place : PySem.W.nsIn K mainGlobals "plain_place" = some (some (.ref a_plain_place))) (l_plain_place : K.lookup a_plain_place = some ⟨oc_plain_place, od_plain_place, .func (PySem.W.fnOf "plain_place" "plain_place" (defArgs s_plain_place) (defBody s_plain_place) (defScope s_plain_place) .none kV_plain_place dc_plain_place pm_plain_place an_plain_place cd_plain_place ct_plain_place), sl_plain_place⟩) (c_plain_place : PySem.W.codeIn K cd_plain_place "plain_place" = true) (k_plain_place : PySem.W.keepIn K (.ref a_plain_place) = true)
    (na_quarters_of : PySem.W.nsIn K mainGlobals "quarters_of" = some (some (.ref a_quarters_of))) (l_quarters_of : K.lookup a_quarters_of = some ⟨oc_quarters_of, od_quarters_of, .func (PySem.W.fnOf "quarters_of" "quarters_of" (defArgs s_quarters_of) (defBody s_quarters_of) (defScope s_quarters_of) .none kV_quarters_of dc_quarters_of pm_quarters_of an_quarters_of cd_quarters_of ct_quarters_of), sl_quarters_of⟩) (c_quarters_of : PySem.W.codeIn K cd_quarters_of "quarters_of" = true) (k_quarters_of : PySem.W.keepIn K (.ref a_quarters_of) = true)
    (na_turned_left : PySem.W.nsIn K mainGlobals "turned_left" = some (some (.ref a_turned_left))) (l_turned_left : K.lookup a_turned_left = some ⟨oc_turned_left, od_turned_left, .func (PySem.W.fnOf "turned_left" "turned_left" (defArgs s_turned_left) (defBody s_turned_left) (defScope s_turned_left) .none kV_turned_left dc_turned_left pm_turned_left an_turned_left cd_turned_left ct_turned_left), sl_turned_left⟩) (c_turned_left : PySem.W.codeIn K cd_turned_left "turned_left" = true) (k_turned_left : PySem.W.keepIn K (.ref a_turned_left) = true)
    (na_mirrored_by : PySem.W.nsIn K mainGlobals "mirrored_by" = some (some (.ref a_mirrored_by))) (l_mirrored_by : K.lookup a_mirrored_by = some ⟨oc_mirrored_by, od_mirrored_by, .func (PySem.W.fnOf "mirrored_by" "mirrored_by" (defArgs s_mirrored_by) (defBody s_mirrored_by) (defScope s_mirrored_by) .none kV_mirrored_by dc_mirrored_by pm_mirrored_by an_mirrored_by cd_mirrored_by ct_mirrored_by), sl_mirrored_by⟩) (c_mirrored_by : PySem.W.codeIn K cd_mirrored_by "mirrored_by" = true) (k_mirrored_by : PySem.W.keepIn K (.ref a_mirrored_by) = true)
    (na_from_plain : PySem.W.nsIn K mainGlobals "from_plain" = some (some (.ref a_from_plain))) (l_from_plain : K.lookup a_from_plain = some ⟨oc_from_plain, od_from_plain, .func (PySem.W.fnOf "from_plain" "from_plain" (defArgs s_from_plain) (defBody s_from_plain) (defScope s_from_plain) .none kV_from_plain dc_from_plain pm_from_plain an_from_plain cd_from_plain ct_from_plain), sl_from_plain⟩) (c_from_plain : PySem.W.codeIn K cd_from_plain "from_plain" = true) (k_from_plain : PySem.W.keepIn K (.ref a_from_plain) = true)
    (na_place_of : PySem.W.nsIn K mainGlobals "place_of" = some (some (.ref a_place_of))) (l_place_of : K.lookup a_place_of = some ⟨oc_place_of, od_place_of, .func (PySem.W.fnOf "place_of" "place_of" (defArgs s_place_of) (defBody s_place_of) (defScope s_place_of) .none kV_place_of dc_place_of pm_place_of an_place_of cd_place_of ct_place_of), sl_place_of⟩) (c_place_of : PySem.W.codeIn K cd_place_of "place_of" = true) (k_place_of : PySem.W.keepIn K (.ref a_place_of) = true)
    (na_plain_offset : PySem.W.nsIn K mainGlobals "plain_offset" = some (some (.ref a_plain_offset))) (l_plain_offset : K.lookup a_plain_offset = some ⟨oc_plain_offset, od_plain_offset, .func (PySem.W.fnOf "plain_offset" "plain_offset" (defArgs s_plain_offset) (defBody s_plain_offset) (defScope s_plain_offset) .none kV_plain_offset dc_plain_offset pm_plain_offset an_plain_offset cd_plain_offset ct_plain_offset), sl_plain_offset⟩) (c_plain_offset : PySem.W.codeIn K cd_plain_offset "plain_offset" = true) (k_plain_offset : PySem.W.keepIn K (.ref a_plain_offset) = true)
    (na_to_plain : PySem.W.nsIn K mainGlobals "to_plain" = some (some (.ref a_to_plain))) (l_to_plain : K.lookup a_to_plain = some ⟨oc_to_plain, od_to_plain, .func (PySem.W.fnOf "to_plain" "to_plain" (defArgs s_to_plain) (defBody s_to_plain) (defScope s_to_plain) .none kV_to_plain dc_to_plain pm_to_plain an_to_plain cd_to_plain ct_to_plain), sl_to_plain⟩) (c_to_plain : PySem.W.codeIn K cd_to_plain "to_plain" = true) (k_to_plain : PySem.W.keepIn K (.ref a_to_plain) = true)
    (na_number_at : PySem.W.nsIn K mainGlobals "number_at" = some (some (.ref a_number_at))) (l_number_at : K.lookup a_number_at = some ⟨oc_number_at, od_number_at, .func (PySem.W.fnOf "number_at" "number_at" (defArgs s_number_at) (defBody s_number_at) (defScope s_number_at) .none kV_number_at dc_number_at pm_number_at an_number_at cd_number_at ct_number_at), sl_number_at⟩) (c_number_at : PySem.W.codeIn K cd_number_at "number_at" = true) (k_number_at : PySem.W.keepIn K (.ref a_number_at) = true)
    (na__law_deck : PySem.W.nsIn K mainGlobals "_law_deck" = some (some (.ref a__law_deck))) (l__law_deck : K.lookup a__law_deck = some ⟨oc__law_deck, od__law_deck, .func (PySem.W.fnOf "_law_deck" "_law_deck" (defArgs s__law_deck) (defBody s__law_deck) (defScope s__law_deck) .none kV__law_deck dc__law_deck pm__law_deck an__law_deck cd__law_deck ct__law_deck), sl__law_deck⟩) (c__law_deck : PySem.W.codeIn K cd__law_deck "_law_deck" = true) (k__law_deck : PySem.W.keepIn K (.ref a__law_deck) = true)
    (na__law_mix : PySem.W.nsIn K mainGlobals "_law_mix" = some (some (.ref a__law_mix))) (l__law_mix : K.lookup a__law_mix = some ⟨oc__law_mix, od__law_mix, .func (PySem.W.fnOf "_law_mix" "_law_mix" (defArgs s__law_mix) (defBody s__law_mix) (defScope s__law_mix) .none kV__law_mix dc__law_mix pm__law_mix an__law_mix cd__law_mix ct__law_mix), sl__law_mix⟩) (c__law_mix : PySem.W.codeIn K cd__law_mix "_law_mix" = true) (k__law_mix : PySem.W.keepIn K (.ref a__law_mix) = true)
    (na__law_next : PySem.W.nsIn K mainGlobals "_law_next" = some (some (.ref a__law_next))) (l__law_next : K.lookup a__law_next = some ⟨oc__law_next, od__law_next, .func (PySem.W.fnOf "_law_next" "_law_next" (defArgs s__law_next) (defBody s__law_next) (defScope s__law_next) .none kV__law_next dc__law_next pm__law_next an__law_next cd__law_next ct__law_next), sl__law_next⟩) (c__law_next : PySem.W.codeIn K cd__law_next "_law_next" = true) (k__law_next : PySem.W.keepIn K (.ref a__law_next) = true)
    (na__law_great : PySem.W.nsIn K mainGlobals "_law_great" = some (some (.ref a__law_great))) (l__law_great : K.lookup a__law_great = some ⟨oc__law_great, od__law_great, .func (PySem.W.fnOf "_law_great" "_law_great" (defArgs s__law_great) (defBody s__law_great) (defScope s__law_great) .none kV__law_great dc__law_great pm__law_great an__law_great cd__law_great ct__law_great), sl__law_great⟩) (c__law_great : PySem.W.codeIn K cd__law_great "_law_great" = true) (k__law_great : PySem.W.keepIn K (.ref a__law_great) = true)
    (na__law_spiral : PySem.W.nsIn K mainGlobals "_law_spiral" = some (some (.ref a__law_spiral))) (l__law_spiral : K.lookup a__law_spiral = some ⟨oc__law_spiral, od__law_spiral, .func (PySem.W.fnOf "_law_spiral" "_law_spiral" (defArgs s__law_spiral) (defBody s__law_spiral) (defScope s__law_spiral) .none kV__law_spiral dc__law_spiral pm__law_spiral an__law_spiral cd__law_spiral ct__law_spiral), sl__law_spiral⟩) (c__law_spiral : PySem.W.codeIn K cd__law_spiral "_law_spiral" = true) (k__law_spiral : PySem.W.keepIn K (.ref a__law_spiral) = true)
    (na__law_far : PySem.W.nsIn K mainGlobals "_law_far" = some (some (.ref a__law_far))) (l__law_far : K.lookup a__law_far = some ⟨oc__law_far, od__law_far, .func (PySem.W.fnOf "_law_far" "_law_far" (defArgs s__law_far) (defBody s__law_far) (defScope s__law_far) .none kV__law_far dc__law_far pm__law_far an__law_far cd__law_far ct__law_far), sl__law_far⟩) (c__law_far : PySem.W.codeIn K cd__law_far "_law_far" = true) (k__law_far : PySem.W.keepIn K (.ref a__law_far) = true)
    (na__law_any_place : PySem.W.nsIn K mainGlobals "_law_any_place" = some (some (.ref a__law_any_place))) (l__law_any_place : K.lookup a__law_any_place = some ⟨oc__law_any_place, od__law_any_place, .func (PySem.W.fnOf "_law_any_place" "_law_any_place" (defArgs s__law_any_place) (defBody s__law_any_place) (defScope s__law_any_place) .none kV__law_any_place dc__law_any_place pm__law_any_place an__law_any_place cd__law_any_place ct__law_any_place), sl__law_any_place⟩) (c__law_any_place : PySem.W.codeIn K cd__law_any_place "_law_any_place" = true) (k__law_any_place : PySem.W.keepIn K (.ref a__law_any_place) = true)
    (na__law_left : PySem.W.nsIn K mainGlobals "_law_left" = some (some (.ref a__law_left))) (l__law_left : K.lookup a__law_left = some ⟨oc__law_left, od__law_left, .func (PySem.W.fnOf "_law_left" "_law_left" (defArgs s__law_left) (defBody s__law_left) (defScope s__law_left) .none kV__law_left dc__law_left pm__law_left an__law_left cd__law_left ct__law_left), sl__law_left⟩) (c__law_left : PySem.W.codeIn K cd__law_left "_law_left" = true) (k__law_left : PySem.W.keepIn K (.ref a__law_left) = true)
    (na__law_otherwise_right : PySem.W.nsIn K mainGlobals "_law_otherwise_right" = some (some (.ref a__law_otherwise_right))) (l__law_otherwise_right : K.lookup a__law_otherwise_right = some ⟨oc__law_otherwise_right, od__law_otherwise_right, .func (PySem.W.fnOf "_law_otherwise_right" "_law_otherwise_right" (defArgs s__law_otherwise_right) (defBody s__law_otherwise_right) (defScope s__law_otherwise_right) .none kV__law_otherwise_right dc__law_otherwise_right pm__law_otherwise_right an__law_otherwise_right cd__law_otherwise_right ct__law_otherwise_right), sl__law_otherwise_right⟩) (c__law_otherwise_right : PySem.W.codeIn K cd__law_otherwise_right "_law_otherwise_right" = true) (k__law_otherwise_right : PySem.W.keepIn K (.ref a__law_otherwise_right) = true)
    (na_law : PySem.W.nsIn K mainGlobals "law" = some (some (.ref a_law))) (l_law : K.lookup a_law = some ⟨oc_law, od_law, .func (PySem.W.fnOf "law" "law" (defArgs s_law) (defBody s_law) (defScope s_law) .none kV_law dc_law pm_law an_law cd_law ct_law), sl_law⟩) (c_law : PySem.W.codeIn K cd_law "law" = true) (k_law : PySem.W.keepIn K (.ref a_law) = true)
    (z_abs : PySem.W.nsIn K mainGlobals "abs" = some none)
    (z_all : PySem.W.nsIn K mainGlobals "all" = some none)
    (z_int : PySem.W.nsIn K mainGlobals "int" = some none)
    (z_len : PySem.W.nsIn K mainGlobals "len" = some none)
    (z_max : PySem.W.nsIn K mainGlobals "max" = some none)
    (z_min : PySem.W.nsIn K mainGlobals "min" = some none)
    (z_range : PySem.W.nsIn K mainGlobals "range" = some none)
    (z_set : PySem.W.nsIn K mainGlobals "set" = some none)
    (z_sum : PySem.W.nsIn K mainGlobals "sum" = some none)
    (z_zip : PySem.W.nsIn K mainGlobals "zip" = some none)
    (na_HEADINGS : PySem.W.nsIn K mainGlobals "HEADINGS" = some (some (.ref a_HEADINGS)))
    (l_HEADINGS : K.lookup a_HEADINGS = some ⟨.type "tuple", none, .seq #[.str "e" t0_HEADINGS, .str "n" t1_HEADINGS, .str "w" t2_HEADINGS, .str "s" t3_HEADINGS] n_HEADINGS, sl_HEADINGS⟩)
    (na_TURNS : PySem.W.nsIn K mainGlobals "TURNS" = some (some (.ref a_TURNS)))
    (l_TURNS : K.lookup a_TURNS = some ⟨.type "tuple", none, .seq #[.str "l" t0_TURNS, .str "r" t1_TURNS] n_TURNS, sl_TURNS⟩)
    (eC : cd_is_written_number = .ref aC) (lC : K.lookup aC = some ⟨.type "code", odC, .fields vsC, slC⟩) (h11 : vsC[11]? = some (.ref aP)) (h18 : vsC.getD 18 .none = .str fileC tfC) (h7 : vsC.getD 7 .none = .int flC tgC) (h9 : vsC.getD 9 .none = .bool inC) (h10 : vsC.getD 10 .none = .int txC ttC) (noP : K.lookup aP = none) (na_FIGURES : PySem.W.nsIn K mainGlobals "FIGURES" = some (some (.str "0123456789" t_FIGURES))) :
    ∃ Pt : Addr, DL.TblK K mg "is_written_number" Pt ∧ ∃ fd : FuncData, (∀ (s : Shared) (v : Value), BindsTo s fd ⟨[v], []⟩ [("script", v)]) ∧ ∀ base : Heap, K.In base → base.Ns mainGlobals mg → BmB base mg → FnOk P w K mg base CX0 6 fa fd ["script"] (spD K (F_law Pt)) := by
  obtain rfl : a_law = fa := by
    have e := hfa.symm.trans (PySem.W.mg_of X G na_law)
    cases e; rfl
  let T : ∀ base : Heap, BmB base mg → Tx K mg base := fun base bB => {
    a_is_written_number := a_is_written_number, fd_is_written_number := _, F_is_written_number := fun_mk (st := s_is_written_number) l_is_written_number c_is_written_number k_is_written_number, m_is_written_number := PySem.W.mg_of X G na_is_written_number, n_is_written_number := (fun_mk (st := s_is_written_number) l_is_written_number c_is_written_number k_is_written_number).binds (ps := ["text"]) fun _ _ _ _ _ _ us hl => match us, hl with | [_], _ => rfl,
    a_read_spiral := a_read_spiral, fd_read_spiral := _, F_read_spiral := fun_mk (st := s_read_spiral) l_read_spiral c_read_spiral k_read_spiral, m_read_spiral := PySem.W.mg_of X G na_read_spiral, n_read_spiral := (fun_mk (st := s_read_spiral) l_read_spiral c_read_spiral k_read_spiral).binds (ps := ["text"]) fun _ _ _ _ _ _ us hl => match us, hl with | [_], _ => rfl,
    a_spiral_shown := a_spiral_shown, fd_spiral_shown := _, F_spiral_shown := fun_mk (st := s_spiral_shown) l_spiral_shown c_spiral_shown k_spiral_shown, m_spiral_shown := PySem.W.mg_of X G na_spiral_shown, n_spiral_shown := (fun_mk (st := s_spiral_shown) l_spiral_shown c_spiral_shown k_spiral_shown).binds (ps := ["spiral"]) fun _ _ _ _ _ _ us hl => match us, hl with | [_], _ => rfl,
    a_offset_of := a_offset_of, fd_offset_of := _, F_offset_of := fun_mk (st := s_offset_of) l_offset_of c_offset_of k_offset_of, m_offset_of := PySem.W.mg_of X G na_offset_of, n_offset_of := (fun_mk (st := s_offset_of) l_offset_of c_offset_of k_offset_of).binds (ps := ["spiral", "number"]) fun _ _ _ _ _ _ us hl => match us, hl with | [_, _], _ => rfl,
    a_whole_root := a_whole_root, fd_whole_root := _, F_whole_root := fun_mk (st := s_whole_root) l_whole_root c_whole_root k_whole_root, m_whole_root := PySem.W.mg_of X G na_whole_root, n_whole_root := (fun_mk (st := s_whole_root) l_whole_root c_whole_root k_whole_root).binds (ps := ["square"]) fun _ _ _ _ _ _ us hl => match us, hl with | [_], _ => rfl,
    a_plain_ring := a_plain_ring, fd_plain_ring := _, F_plain_ring := fun_mk (st := s_plain_ring) l_plain_ring c_plain_ring k_plain_ring, m_plain_ring := PySem.W.mg_of X G na_plain_ring, n_plain_ring := (fun_mk (st := s_plain_ring) l_plain_ring c_plain_ring k_plain_ring).binds (ps := ["offset"]) fun _ _ _ _ _ _ us hl => match us, hl with | [_], _ => rfl,
    a_plain_place := a_plain_place, fd_plain_place := _, F_plain_place := fun_mk (st := s_plain_place) l_plain_place c_plain_place k_plain_place, m_plain_place := PySem.W.mg_of X G na_plain_place, n_plain_place := (fun_mk (st := s_plain_place) l_plain_place c_plain_place k_plain_place).binds (ps := ["offset"]) fun _ _ _ _ _ _ us hl => match us, hl with | [_], _ => rfl,
    a_quarters_of := a_quarters_of, fd_quarters_of := _, F_quarters_of := fun_mk (st := s_quarters_of) l_quarters_of c_quarters_of k_quarters_of, m_quarters_of := PySem.W.mg_of X G na_quarters_of, n_quarters_of := (fun_mk (st := s_quarters_of) l_quarters_of c_quarters_of k_quarters_of).binds (ps := ["heading"]) fun _ _ _ _ _ _ us hl => match us, hl with | [_], _ => rfl,
    a_turned_left := a_turned_left, fd_turned_left := _, F_turned_left := fun_mk (st := s_turned_left) l_turned_left c_turned_left k_turned_left, m_turned_left := PySem.W.mg_of X G na_turned_left, n_turned_left := (fun_mk (st := s_turned_left) l_turned_left c_turned_left k_turned_left).binds (ps := ["place", "quarters"]) fun _ _ _ _ _ _ us hl => match us, hl with | [_, _], _ => rfl,
    a_mirrored_by := a_mirrored_by, fd_mirrored_by := _, F_mirrored_by := fun_mk (st := s_mirrored_by) l_mirrored_by c_mirrored_by k_mirrored_by, m_mirrored_by := PySem.W.mg_of X G na_mirrored_by, n_mirrored_by := (fun_mk (st := s_mirrored_by) l_mirrored_by c_mirrored_by k_mirrored_by).binds (ps := ["turn", "place"]) fun _ _ _ _ _ _ us hl => match us, hl with | [_, _], _ => rfl,
    a_from_plain := a_from_plain, fd_from_plain := _, F_from_plain := fun_mk (st := s_from_plain) l_from_plain c_from_plain k_from_plain, m_from_plain := PySem.W.mg_of X G na_from_plain, n_from_plain := (fun_mk (st := s_from_plain) l_from_plain c_from_plain k_from_plain).binds (ps := ["spiral", "place"]) fun _ _ _ _ _ _ us hl => match us, hl with | [_, _], _ => rfl,
    a_place_of := a_place_of, fd_place_of := _, F_place_of := fun_mk (st := s_place_of) l_place_of c_place_of k_place_of, m_place_of := PySem.W.mg_of X G na_place_of, n_place_of := (fun_mk (st := s_place_of) l_place_of c_place_of k_place_of).binds (ps := ["spiral", "number"]) fun _ _ _ _ _ _ us hl => match us, hl with | [_, _], _ => rfl,
    a_plain_offset := a_plain_offset, fd_plain_offset := _, F_plain_offset := fun_mk (st := s_plain_offset) l_plain_offset c_plain_offset k_plain_offset, m_plain_offset := PySem.W.mg_of X G na_plain_offset, n_plain_offset := (fun_mk (st := s_plain_offset) l_plain_offset c_plain_offset k_plain_offset).binds (ps := ["place"]) fun _ _ _ _ _ _ us hl => match us, hl with | [_], _ => rfl,
    a_to_plain := a_to_plain, fd_to_plain := _, F_to_plain := fun_mk (st := s_to_plain) l_to_plain c_to_plain k_to_plain, m_to_plain := PySem.W.mg_of X G na_to_plain, n_to_plain := (fun_mk (st := s_to_plain) l_to_plain c_to_plain k_to_plain).binds (ps := ["spiral", "place"]) fun _ _ _ _ _ _ us hl => match us, hl with | [_, _], _ => rfl,
    a_number_at := a_number_at, fd_number_at := _, F_number_at := fun_mk (st := s_number_at) l_number_at c_number_at k_number_at, m_number_at := PySem.W.mg_of X G na_number_at, n_number_at := (fun_mk (st := s_number_at) l_number_at c_number_at k_number_at).binds (ps := ["spiral", "place"]) fun _ _ _ _ _ _ us hl => match us, hl with | [_, _], _ => rfl,
    a__law_deck := a__law_deck, fd__law_deck := _, F__law_deck := fun_mk (st := s__law_deck) l__law_deck c__law_deck k__law_deck, m__law_deck := PySem.W.mg_of X G na__law_deck, n__law_deck := (fun_mk (st := s__law_deck) l__law_deck c__law_deck k__law_deck).binds (ps := ["script"]) fun _ _ _ _ _ _ us hl => match us, hl with | [_], _ => rfl,
    a__law_mix := a__law_mix, fd__law_mix := _, F__law_mix := fun_mk (st := s__law_mix) l__law_mix c__law_mix k__law_mix, m__law_mix := PySem.W.mg_of X G na__law_mix, n__law_mix := (fun_mk (st := s__law_mix) l__law_mix c__law_mix k__law_mix).binds (ps := ["cell", "k"]) fun _ _ _ _ _ _ us hl => match us, hl with | [_, _], _ => rfl,
    a__law_next := a__law_next, fd__law_next := _, F__law_next := fun_mk (st := s__law_next) l__law_next c__law_next k__law_next, m__law_next := PySem.W.mg_of X G na__law_next, n__law_next := (fun_mk (st := s__law_next) l__law_next c__law_next k__law_next).binds (ps := ["deck", "many"]) fun _ _ _ _ _ _ us hl => match us, hl with | [_, _], _ => rfl,
    a__law_great := a__law_great, fd__law_great := _, F__law_great := fun_mk (st := s__law_great) l__law_great c__law_great k__law_great, m__law_great := PySem.W.mg_of X G na__law_great, n__law_great := (fun_mk (st := s__law_great) l__law_great c__law_great k__law_great).binds (ps := ["deck", "most"]) fun _ _ _ _ _ _ us hl => match us, hl with | [_, _], _ => rfl,
    a__law_spiral := a__law_spiral, fd__law_spiral := _, F__law_spiral := fun_mk (st := s__law_spiral) l__law_spiral c__law_spiral k__law_spiral, m__law_spiral := PySem.W.mg_of X G na__law_spiral, n__law_spiral := (fun_mk (st := s__law_spiral) l__law_spiral c__law_spiral k__law_spiral).binds (ps := ["deck"]) fun _ _ _ _ _ _ us hl => match us, hl with | [_], _ => rfl,
    a__law_far := a__law_far, fd__law_far := _, F__law_far := fun_mk (st := s__law_far) l__law_far c__law_far k__law_far, m__law_far := PySem.W.mg_of X G na__law_far, n__law_far := (fun_mk (st := s__law_far) l__law_far c__law_far k__law_far).binds (ps := ["deck", "most"]) fun _ _ _ _ _ _ us hl => match us, hl with | [_, _], _ => rfl,
    a__law_any_place := a__law_any_place, fd__law_any_place := _, F__law_any_place := fun_mk (st := s__law_any_place) l__law_any_place c__law_any_place k__law_any_place, m__law_any_place := PySem.W.mg_of X G na__law_any_place, n__law_any_place := (fun_mk (st := s__law_any_place) l__law_any_place c__law_any_place k__law_any_place).binds (ps := ["deck"]) fun _ _ _ _ _ _ us hl => match us, hl with | [_], _ => rfl,
    a__law_left := a__law_left, fd__law_left := _, F__law_left := fun_mk (st := s__law_left) l__law_left c__law_left k__law_left, m__law_left := PySem.W.mg_of X G na__law_left, n__law_left := (fun_mk (st := s__law_left) l__law_left c__law_left k__law_left).binds (ps := ["place"]) fun _ _ _ _ _ _ us hl => match us, hl with | [_], _ => rfl,
    a__law_otherwise_right := a__law_otherwise_right, fd__law_otherwise_right := _, F__law_otherwise_right := fun_mk (st := s__law_otherwise_right) l__law_otherwise_right c__law_otherwise_right k__law_otherwise_right, m__law_otherwise_right := PySem.W.mg_of X G na__law_otherwise_right, n__law_otherwise_right := (fun_mk (st := s__law_otherwise_right) l__law_otherwise_right c__law_otherwise_right k__law_otherwise_right).binds (ps := ["deck", "spiral", "number"]) fun _ _ _ _ _ _ us hl => match us, hl with | [_, _, _], _ => rfl,
    a_law := a_law, fd_law := _, F_law := fun_mk (st := s_law) l_law c_law k_law, m_law := PySem.W.mg_of X G na_law, n_law := (fun_mk (st := s_law) l_law c_law k_law).binds (ps := ["script"]) fun _ _ _ _ _ _ us hl => match us, hl with | [_], _ => rfl,
    b_abs := PySem.W.mg_none_of X G z_abs,
    b_all := PySem.W.mg_none_of X G z_all,
    b_int := PySem.W.mg_none_of X G z_int,
    b_len := PySem.W.mg_none_of X G z_len,
    b_max := PySem.W.mg_none_of X G z_max,
    b_min := PySem.W.mg_none_of X G z_min,
    b_range := PySem.W.mg_none_of X G z_range,
    b_set := PySem.W.mg_none_of X G z_set,
    b_sum := PySem.W.mg_none_of X G z_sum,
    b_zip := PySem.W.mg_none_of X G z_zip,
    a_HEADINGS := a_HEADINGS, m_HEADINGS := PySem.W.mg_of X G na_HEADINGS, d_HEADINGS := fun I => Dp.tup ((fun I => .inr ⟨_, _, _, l_HEADINGS, rfl, rfl, szk (k := 4) (by decide), (.cons (relS _ _) (.cons (relS _ _) (.cons (relS _ _) (.cons (relS _ _) .nil))))⟩) I) (.cons (Dp.str _) (.cons (Dp.str _) (.cons (Dp.str _) (.cons (Dp.str _) .nil)))), t_HEADINGS := _, c_HEADINGS := _, l_HEADINGS := _, k_HEADINGS := l_HEADINGS, s_HEADINGS := (fun I => .inr ⟨_, _, _, l_HEADINGS, rfl, rfl, szk (k := 4) (by decide), (.cons (relS _ _) (.cons (relS _ _) (.cons (relS _ _) (.cons (relS _ _) .nil))))⟩), a_HEADINGS_all := fun I => (.cons (Dp.str _) (.cons (Dp.str _) (.cons (Dp.str _) (.cons (Dp.str _) .nil)))),
    a_TURNS := a_TURNS, m_TURNS := PySem.W.mg_of X G na_TURNS, d_TURNS := fun I => Dp.tup ((fun I => .inr ⟨_, _, _, l_TURNS, rfl, rfl, szk (k := 2) (by decide), (.cons (relS _ _) (.cons (relS _ _) .nil))⟩) I) (.cons (Dp.str _) (.cons (Dp.str _) .nil)), t_TURNS := _, c_TURNS := _, l_TURNS := _, k_TURNS := l_TURNS, s_TURNS := (fun I => .inr ⟨_, _, _, l_TURNS, rfl, rfl, szk (k := 2) (by decide), (.cons (relS _ _) (.cons (relS _ _) .nil))⟩), a_TURNS_all := fun I => (.cons (Dp.str _) (.cons (Dp.str _) .nil)),
    aP := aP, aC := aC, gk := ⟨⟨_, _, _, _, _, _, _, _, _, lC, rfl, rfl, h11, h18, h7, h9, h10⟩, noP⟩, bm := bB, gc := eC, t_FIGURES := t_FIGURES, m_FIGURES := PySem.W.mg_of X G na_FIGURES }
  exact ⟨aP, ⟨⟨_, _, _, _, _, aC, _, _, _, _, PySem.W.mg_of X G na_is_written_number, l_is_written_number, eC, lC, h11⟩, noP⟩, fdOfL l_law, fun s v => .of_eq rfl, fun base _ _ bB => ok_law (T base bB)⟩
end K04
open PySem PySem.W PyProof.Rows
set_option maxRecDepth 100000 in
set_option maxHeartbeats 0 in
theorem PySem.Challenge.cw_laidround_k04_whole_spirals_holds : PySem.Challenge.rw_laidround_k04_whole_spirals.Holds := by
  w_on; o_law; k_head; (case hw => w_witness2)
  k_fill
  refine DL.walk_ofP (l := PySem.Challenge.rw_laidround_k04_whole_spirals) (n := 63) (k := 6) (x := "script") (nm := "is_written_number") (F0 := _root_.K04.F_law) rfl (by decide) rfl ⟨rfl, by decide, by decide⟩ (fun w h Y => PySem.W.kIn_of Y) (by rfl) ?F ?S ?hmo
  case F =>
    intro w mg fa h KX G hmg
    refine' _root_.K04.fin_mk KX G hmg ?na_is_written_number ?l_is_written_number ?c_is_written_number ?k_is_written_number ?na_read_spiral ?l_read_spiral ?c_read_spiral ?k_read_spiral ?na_spiral_shown ?l_spiral_shown ?c_spiral_shown ?k_spiral_shown ?na_offset_of ?l_offset_of ?c_offset_of ?k_offset_of ?na_whole_root ?l_whole_root ?c_whole_root ?k_whole_root ?na_plain_ring ?l_plain_ring ?c_plain_ring ?k_plain_ring ?na_plain_place ?l_plain_place ?c_plain_place ?k_plain_place ?na_quarters_of ?l_quarters_of ?c_quarters_of ?k_quarters_of ?na_turned_left ?l_turned_left ?c_turned_left ?k_turned_left ?na_mirrored_by ?l_mirrored_by ?c_mirrored_by ?k_mirrored_by ?na_from_plain ?l_from_plain ?c_from_plain ?k_from_plain ?na_place_of ?l_place_of ?c_place_of ?k_place_of ?na_plain_offset ?l_plain_offset ?c_plain_offset ?k_plain_offset ?na_to_plain ?l_to_plain ?c_to_plain ?k_to_plain ?na_number_at ?l_number_at ?c_number_at ?k_number_at ?na__law_deck ?l__law_deck ?c__law_deck ?k__law_deck ?na__law_mix ?l__law_mix ?c__law_mix ?k__law_mix ?na__law_next ?l__law_next ?c__law_next ?k__law_next ?na__law_great ?l__law_great ?c__law_great ?k__law_great ?na__law_spiral ?l__law_spiral ?c__law_spiral ?k__law_spiral ?na__law_far ?l__law_far ?c__law_far ?k__law_far ?na__law_any_place ?l__law_any_place ?c__law_any_place ?k__law_any_place ?na__law_left ?l__law_left ?c__law_left ?k__law_left ?na__law_otherwise_right ?l__law_otherwise_right ?c__law_otherwise_right ?k__law_otherwise_right ?na_law ?l_law ?c_law ?k_law ?z_abs ?z_all ?z_int ?z_len ?z_max ?z_min ?z_range ?z_set ?z_sum ?z_zip ?na_HEADINGS ?l_HEADINGS ?na_TURNS ?l_TURNS ?eC ?lC ?h11 ?h18 ?h7 ?h9 ?h10 ?noP ?na_FIGURES
    (case na_is_written_number => k_is)
    (case l_is_written_number => k_is)
    (case c_is_written_number => k_is)
    (case k_is_written_number => k_is)
    (case na_read_spiral => k_is)
    (case l_read_spiral => k_is)
    (case c_read_spiral => k_is)
    (case k_read_spiral => k_is)
    (case na_spiral_shown => k_is)
    (case l_spiral_shown => k_is)
    (case c_spiral_shown => k_is)
    (case k_spiral_shown => k_is)
    (case na_offset_of => k_is)
    (case l_offset_of => k_is)
    (case c_offset_of => k_is)
    (case k_offset_of => k_is)
    (case na_whole_root => k_is)
    (case l_whole_root => k_is)
    (case c_whole_root => k_is)
    (case k_whole_root => k_is)
    (case na_plain_ring => k_is)
    (case l_plain_ring => k_is)
    (case c_plain_ring => k_is)
    (case k_plain_ring => k_is)
    (case na_plain_place => k_is)
    (case l_plain_place => k_is)
    (case c_plain_place => k_is)
    (case k_plain_place => k_is)
    (case na_quarters_of => k_is)
    (case l_quarters_of => k_is)
    (case c_quarters_of => k_is)
    (case k_quarters_of => k_is)
    (case na_turned_left => k_is)
    (case l_turned_left => k_is)
    (case c_turned_left => k_is)
    (case k_turned_left => k_is)
    (case na_mirrored_by => k_is)
    (case l_mirrored_by => k_is)
    (case c_mirrored_by => k_is)
    (case k_mirrored_by => k_is)
    (case na_from_plain => k_is)
    (case l_from_plain => k_is)
    (case c_from_plain => k_is)
    (case k_from_plain => k_is)
    (case na_place_of => k_is)
    (case l_place_of => k_is)
    (case c_place_of => k_is)
    (case k_place_of => k_is)
    (case na_plain_offset => k_is)
    (case l_plain_offset => k_is)
    (case c_plain_offset => k_is)
    (case k_plain_offset => k_is)
    (case na_to_plain => k_is)
    (case l_to_plain => k_is)
    (case c_to_plain => k_is)
    (case k_to_plain => k_is)
    (case na_number_at => k_is)
    (case l_number_at => k_is)
    (case c_number_at => k_is)
    (case k_number_at => k_is)
    (case na__law_deck => k_is)
    (case l__law_deck => k_is)
    (case c__law_deck => k_is)
    (case k__law_deck => k_is)
    (case na__law_mix => k_is)
    (case l__law_mix => k_is)
    (case c__law_mix => k_is)
    (case k__law_mix => k_is)
    (case na__law_next => k_is)
    (case l__law_next => k_is)
    (case c__law_next => k_is)
    (case k__law_next => k_is)
    (case na__law_great => k_is)
    (case l__law_great => k_is)
    (case c__law_great => k_is)
    (case k__law_great => k_is)
    (case na__law_spiral => k_is)
    (case l__law_spiral => k_is)
    (case c__law_spiral => k_is)
    (case k__law_spiral => k_is)
    (case na__law_far => k_is)
    (case l__law_far => k_is)
    (case c__law_far => k_is)
    (case k__law_far => k_is)
    (case na__law_any_place => k_is)
    (case l__law_any_place => k_is)
    (case c__law_any_place => k_is)
    (case k__law_any_place => k_is)
    (case na__law_left => k_is)
    (case l__law_left => k_is)
    (case c__law_left => k_is)
    (case k__law_left => k_is)
    (case na__law_otherwise_right => k_is)
    (case l__law_otherwise_right => k_is)
    (case c__law_otherwise_right => k_is)
    (case k__law_otherwise_right => k_is)
    (case na_law => k_is)
    (case l_law => k_is)
    (case c_law => k_is)
    (case k_law => k_is)
    (case z_abs => k_is)
    (case z_all => k_is)
    (case z_int => k_is)
    (case z_len => k_is)
    (case z_max => k_is)
    (case z_min => k_is)
    (case z_range => k_is)
    (case z_set => k_is)
    (case z_sum => k_is)
    (case z_zip => k_is)
    (case na_HEADINGS => k_is)
    (case l_HEADINGS => k_is)
    (case na_TURNS => k_is)
    (case l_TURNS => k_is)
    (case eC => rfl)
    (case lC => k_is)
    (case h11 => rfl)
    (case h18 => rfl)
    (case h7 => rfl)
    (case h9 => rfl)
    (case h10 => rfl)
    (case noP => kernel_rfl)
    (case na_FIGURES => k_is)
  case S => exact fun Pt ns hl => ⟨ns, rfl, hl, DL.setM_same, fun _ => rfl⟩
  case hmo => exact fun Pt => _root_.K04.mo_law
#print axioms PySem.Challenge.cw_laidround_k04_whole_spirals_holds

